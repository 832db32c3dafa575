/- The lines of layer 8, for every state and every word (made by genslabs.py). -/
import Derived.Test.YtblkfbbdeodpjaaSlabFn
import Derived.Test.YtblkfbbdeodpjaaStepSlab
namespace Go.Proofs.Ytblkfbbdeodpjaa.Me
open Go Go.RowKit Go.Proofs.Ytblkfbbdeodpjaa.Gro Go.Proofs.Ytblkfbbdeodpjaa.Own Go.Proofs.Ytblkfbbdeodpjaa.Wd Go.Proofs.Ytblkfbbdeodpjaa.Ap Go.Proofs.Ytblkfbbdeodpjaa.Pl Go.Proofs.Ytblkfbbdeodpjaa.Wo
set_option linter.unusedVariables false
set_option linter.unusedSimpArgs false
set_option maxRecDepth 10000 in
set_option maxHeartbeats 4000000 in
theorem slHomeC {B : Nat} {w : World} {g gl cap : Nat} {c : Cfg} {a : Acc} {L : List Int} (M : MemAt B w g c a gl cap L) (hf : c.Wf) (k : Int) : Calls Try.prog 127 #[.pointer (some ⟨g, 0, none⟩), .int .i64 k] w fun e w' => e = .returned (.int .i64 (slHome c k)) ∧ Below w.heap.size w w' := by
  have m0 := M.B.cells
  have lg := M.lt.1
  have hh : aSlab c (aHom c (wrap64 (k - 1))) = slHome c k := rfl
  have HH := Lib.hid hh
  clear hh
  go_enter Try.func127, Try.ntmps127
  go_wp2
  refine wp_region_grown (by kernel_rfl) (by kernel_rfl) ?_
  have hg := @gcell
  repeat (go_big_quiet_step (first | exact grown_of (Pl.home c hf _ _) | exact grown_of (Pl.slab c hf _ _)))
  refine wpQuiet_nil ?_
  rintro w1 ⟨⟨_, hb1⟩, rfl⟩
  clear hg
  rw [HH.out]
  go_wp2
  go_ret
  exact ⟨rfl, hb1⟩
set_option maxRecDepth 10000 in
set_option maxHeartbeats 4000000 in
theorem slPark1 {B : Nat} {w0 w : World} {g gl cap gx : Nat} {c : Cfg} {a : Acc} {L : List Int} {s : Wk} (h : MX B w0 g gl cap gx c a L s w) (hm : L.length ≤ 1000) (hL : WR L) (hf : c.Wf) (he : slNow L (slHome c s.p.k) / 16 % 4096 = c.bl) : Calls Try.prog 126 #[.pointer (some ⟨g, 0, none⟩), .pointer (some ⟨gx, 0, none⟩)] w fun e w' => e = .returned (.int .i64 0) ∧ MX B w0 g gl cap gx c (acc L 4 (slHome c s.p.k) 16 0) (adL L (slHome c s.p.k) 16) { s with p := { s.p with ln := 31 } } w' := by
  have f0 : ∀ s : Wk, (wc s)[0]? = some (.int .i64 s.p.ln) := fun _ => rfl
  have f19 : ∀ s : Wk, (wc s)[19]? = some (.int .i64 s.p.k) := fun _ => rfl
  have HE := Lib.hid he
  have hv := wrap_rng (ldV L (slHome c s.p.k) + 16)
  have HN := Lib.hid (show IntKind.u64.wrap (ldV L (slHome c s.p.k) + 16) = slNow L (slHome c s.p.k) from rfl)
  rw [HN.out] at hv
  have HUN := Lib.hid (fun w => unslabP (slNow L (slHome c s.p.k)) hv.1 hv.2 w)
  have HHO := Lib.hid (slHomeC h.M hf s.p.k)
  clear he hv
  have x0 := h.X.cells
  go_enter Try.func126, Try.ntmps126
  go_wp2_with fail
  refine HHO.out.mono ?_
  rintro en w1 ⟨rfl, hb1⟩
  have H1 := h.keep hb1
  clear HHO x0 hb1
  go_wp2_with fail
  refine (add_any H1.M hm _ 16).mono ?_
  rintro en w2 ⟨rfl, M2, T2⟩
  have H2 := H1.mem M2 T2
  clear H1 M2 T2
  go_wp2_with fail
  rw [HN.out]
  refine (HUN.out _).mono ?_
  rintro en w3 ⟨rfl, hb3⟩
  have H3 := H2.keep hb3
  have x3 := H3.X.cells
  have m3 := H3.M.B.cells
  obtain ⟨q, hq⟩ : ∃ q, q = slNow L (slHome c s.p.k) / 16 % 4096 := ⟨_, rfl⟩
  rw [← hq] at HE
  simp only [← hq]
  clear hq H2 hb3
  have te : (q == c.bl) = true := by have := HE.out; simp [this]
  have H4 := H3.set (s' := { s with p := { s.p with ln := 31 } }) 0 (.int .i64 31) rfl
  have xw3 := H3.X.cells
  have zw3 := H3.X.frozen
  have ew3_0 : (w3.cell? ⟨gx, 0, none⟩).isSome = true := by rw [xw3, f0]; rfl
  go_wp2
  go_ret
  exact ⟨rfl, H4⟩
set_option maxRecDepth 10000 in
set_option maxHeartbeats 4000000 in
theorem sll30y {B : Nat} {w0 w : World} {g gl cap gx : Nat} {c : Cfg} {a : Acc} {L : List Int} {s : Wk} (h : MX B w0 g gl cap gx c a L s w) (hm : L.length ≤ 1000) (hL : WR L) (hf : c.Wf) (hl : s.p.ln = 30) (he : slNow L (slHome c s.p.k) / 16 % 4096 = c.bl) : Calls Try.prog 78 #[.pointer (some ⟨g, 0, none⟩), .pointer (some ⟨gx, 0, none⟩)] w (LP B w0 g gl cap gx c ⟨acc L 4 (slHome c s.p.k) 16 0, adL L (slHome c s.p.k) 16, { s.p with ln := 31 }, 0, true⟩ s) := by
  have HC := Lib.hid (slPark1 h hm hL hf he)
  clear he
  have f0 : ∀ s : Wk, (wc s)[0]? = some (.int .i64 s.p.ln) := fun _ => rfl
  have t30 : (s.p.ln == 30) = true := by simp [hl]
  have x0 := h.X.cells
  clear hl
  go_enter Try.func78, Try.ntmps78
  go_wp2_with fail
  refine HC.out.mono ?_
  rintro en w1 ⟨rfl, H1⟩
  go_wp2
  go_ret2
  exact ⟨rfl, H1⟩
set_option maxRecDepth 10000 in
set_option maxHeartbeats 4000000 in
theorem slPark0 {B : Nat} {w0 w : World} {g gl cap gx : Nat} {c : Cfg} {a : Acc} {L : List Int} {s : Wk} (h : MX B w0 g gl cap gx c a L s w) (hm : L.length ≤ 1000) (hL : WR L) (hf : c.Wf) (he : slNow L (slHome c s.p.k) / 16 % 4096 ≠ c.bl) : Calls Try.prog 126 #[.pointer (some ⟨g, 0, none⟩), .pointer (some ⟨gx, 0, none⟩)] w fun e w' => e = .returned (.int .i64 1) ∧ MX B w0 g gl cap gx c (acc L 4 (slHome c s.p.k) 16 0) (adL L (slHome c s.p.k) 16) { s with p := { s.p with k := 0 } } w' := by
  have f0 : ∀ s : Wk, (wc s)[0]? = some (.int .i64 s.p.ln) := fun _ => rfl
  have f19 : ∀ s : Wk, (wc s)[19]? = some (.int .i64 s.p.k) := fun _ => rfl
  have HE := Lib.hid he
  have hv := wrap_rng (ldV L (slHome c s.p.k) + 16)
  have HN := Lib.hid (show IntKind.u64.wrap (ldV L (slHome c s.p.k) + 16) = slNow L (slHome c s.p.k) from rfl)
  rw [HN.out] at hv
  have HUN := Lib.hid (fun w => unslabP (slNow L (slHome c s.p.k)) hv.1 hv.2 w)
  have HHO := Lib.hid (slHomeC h.M hf s.p.k)
  clear he hv
  have x0 := h.X.cells
  go_enter Try.func126, Try.ntmps126
  go_wp2_with fail
  refine HHO.out.mono ?_
  rintro en w1 ⟨rfl, hb1⟩
  have H1 := h.keep hb1
  clear HHO x0 hb1
  go_wp2_with fail
  refine (add_any H1.M hm _ 16).mono ?_
  rintro en w2 ⟨rfl, M2, T2⟩
  have H2 := H1.mem M2 T2
  clear H1 M2 T2
  go_wp2_with fail
  rw [HN.out]
  refine (HUN.out _).mono ?_
  rintro en w3 ⟨rfl, hb3⟩
  have H3 := H2.keep hb3
  have x3 := H3.X.cells
  have m3 := H3.M.B.cells
  obtain ⟨q, hq⟩ : ∃ q, q = slNow L (slHome c s.p.k) / 16 % 4096 := ⟨_, rfl⟩
  rw [← hq] at HE
  simp only [← hq]
  clear hq H2 hb3
  have te : (q == c.bl) = false := by have := HE.out; simp [this]
  have H4 := H3.set (s' := { s with p := { s.p with k := 0 } }) 19 (.int .i64 0) rfl
  have xw3 := H3.X.cells
  have zw3 := H3.X.frozen
  have ew3_19 : (w3.cell? ⟨gx, 19, none⟩).isSome = true := by rw [xw3, f19]; rfl
  go_wp2
  go_ret
  exact ⟨rfl, H4⟩
set_option maxRecDepth 10000 in
set_option maxHeartbeats 4000000 in
theorem sll30n {B : Nat} {w0 w : World} {g gl cap gx : Nat} {c : Cfg} {a : Acc} {L : List Int} {s : Wk} (h : MX B w0 g gl cap gx c a L s w) (hm : L.length ≤ 1000) (hL : WR L) (hf : c.Wf) (hl : s.p.ln = 30) (he : slNow L (slHome c s.p.k) / 16 % 4096 ≠ c.bl) : Calls Try.prog 78 #[.pointer (some ⟨g, 0, none⟩), .pointer (some ⟨gx, 0, none⟩)] w (LP B w0 g gl cap gx c ⟨acc L 4 (slHome c s.p.k) 16 0, adL L (slHome c s.p.k) 16, { s.p with k := 0 }, 1, true⟩ s) := by
  have HC := Lib.hid (slPark0 h hm hL hf he)
  clear he
  have f0 : ∀ s : Wk, (wc s)[0]? = some (.int .i64 s.p.ln) := fun _ => rfl
  have t30 : (s.p.ln == 30) = true := by simp [hl]
  have x0 := h.X.cells
  clear hl
  go_enter Try.func78, Try.ntmps78
  go_wp2_with fail
  refine HC.out.mono ?_
  rintro en w1 ⟨rfl, H1⟩
  go_wp2
  go_ret2
  exact ⟨rfl, H1⟩
set_option maxRecDepth 10000 in
set_option maxHeartbeats 4000000 in
theorem sll31 {B : Nat} {w0 w : World} {g gl cap gx : Nat} {c : Cfg} {a : Acc} {L : List Int} {s : Wk} (h : MX B w0 g gl cap gx c a L s w) (hm : L.length ≤ 1000) (hL : WR L) (hf : c.Wf) (hl : s.p.ln = 31) : Calls Try.prog 78 #[.pointer (some ⟨g, 0, none⟩), .pointer (some ⟨gx, 0, none⟩)] w (LP B w0 g gl cap gx c ⟨acc L 1 0 0 0, L, { s.p with v := ldV L 0, ln := 32 }, 0, true⟩ s) := by
  have f0 : ∀ s : Wk, (wc s)[0]? = some (.int .i64 s.p.ln) := fun _ => rfl
  have f25 : ∀ s : Wk, (wc s)[25]? = some (.int .u64 s.p.v) := fun _ => rfl
  have t30 : (s.p.ln == 30) = false := by simp [hl]
  have t31 : (s.p.ln == 31) = true := by simp [hl]
  have x0 := h.X.cells
  clear hl
  go_enter Try.func78, Try.ntmps78
  go_wp2_with fail
  refine (load_any h.M hm 0).mono ?_
  rintro en w1 ⟨rfl, M1, T1⟩
  have H1 := h.mem M1 T1
  obtain ⟨v0, hv0⟩ : ∃ v, v = ldV L 0 := ⟨_, rfl⟩
  simp only [← hv0]
  have HV := Lib.hid hv0
  clear hv0 x0 M1 T1
  have H2 := H1.set (s' := { s with p := { s.p with v := v0 } }) 25 (.int .u64 v0) rfl
  have xw1 := H1.X.cells
  have zw1 := H1.X.frozen
  have ew1_25 : (w1.cell? ⟨gx, 25, none⟩).isSome = true := by rw [xw1, f25]; rfl
  have H3 := H2.set (s' := { s with p := { s.p with v := v0, ln := 32 } }) 0 (.int .i64 32) rfl
  have y2 : ((w1.setCell ⟨gx, 25, none⟩ (.int .u64 v0)).cell? ⟨gx, 0, none⟩).isSome = true := by rw [H2.X.cells, f0]; rfl
  go_wp2
  go_ret2
  have e1 := HV.out
  subst e1
  exact ⟨rfl, H3⟩
set_option maxRecDepth 10000 in
set_option maxHeartbeats 4000000 in
theorem sll32 {B : Nat} {w0 w : World} {g gl cap gx : Nat} {c : Cfg} {a : Acc} {L : List Int} {s : Wk} (h : MX B w0 g gl cap gx c a L s w) (hm : L.length ≤ 1000) (hL : WR L) (hf : c.Wf) (hl : s.p.ln = 32) : Calls Try.prog 78 #[.pointer (some ⟨g, 0, none⟩), .pointer (some ⟨gx, 0, none⟩)] w (LP B w0 g gl cap gx c ⟨acc L 2 (slHome c s.p.k) (Pk.sl 3 0 s.p.v) 0, stL L (slHome c s.p.k) (Pk.sl 3 0 s.p.v), { s.p with k := 0 }, 1, true⟩ s) := by
  have f0 : ∀ s : Wk, (wc s)[0]? = some (.int .i64 s.p.ln) := fun _ => rfl
  have f19 : ∀ s : Wk, (wc s)[19]? = some (.int .i64 s.p.k) := fun _ => rfl
  have f25 : ∀ s : Wk, (wc s)[25]? = some (.int .u64 s.p.v) := fun _ => rfl
  have t30 : (s.p.ln == 30) = false := by simp [hl]
  have t31 : (s.p.ln == 31) = false := by simp [hl]
  have t32 : (s.p.ln == 32) = true := by simp [hl]
  have x0 := h.X.cells
  clear hl
  go_enter Try.func78, Try.ntmps78
  have lx := h.lt
  have lg := h.M.lt.1
  go_wp2
  have HHO := Lib.hid (fun (n : Gr w) => slHomeC (h.M.keep n.2) hf s.p.k)
  refine wp_region_grown_tail 12 (by kernel_rfl) (by kernel_rfl) ?_
  simp only [List.take_succ_cons, List.take_zero, List.drop_succ_cons, List.drop_zero]
  have hg := @gcell
  repeat (go_big_quiet_step (first | exact grown_of (HHO.out _) | exact grown_same (Pk.slab _ _ _ _)))
  refine wpQuiet_nil ?_
  rintro w1 ⟨⟨_, hb1⟩, rfl⟩
  clear hg
  have H1 := h.keep hb1
  clear x0 lx lg hb1 HHO
  go_wp2_with fail
  refine (store_any H1.M hm _ _).mono ?_
  rintro en w2 ⟨rfl, M2, T2⟩
  have H2 := H1.mem M2 T2
  clear H1 M2 T2
  have H3 := H2.set (s' := { s with p := { s.p with k := 0 } }) 19 (.int .i64 0) rfl
  have xw2 := H2.X.cells
  have zw2 := H2.X.frozen
  have ew2_19 : (w2.cell? ⟨gx, 19, none⟩).isSome = true := by rw [xw2, f19]; rfl
  go_wp2
  go_ret2
  exact ⟨rfl, H3⟩
set_option maxRecDepth 10000 in
set_option maxHeartbeats 4000000 in
theorem slLookr {B : Nat} {w0 w : World} {g gl cap gx : Nat} {c : Cfg} {a : Acc} {L : List Int} {s : Wk} (h : MX B w0 g gl cap gx c a L s w) (hm : L.length ≤ 1000) (hL : WR L) (hf : c.Wf) (he : s.p.ep < 18446744073709551616) (hr : rdyB (ldV L (aSlab c s.p.j)) s.p.ep = true) : Calls Try.prog 129 #[.pointer (some ⟨g, 0, none⟩), .pointer (some ⟨gx, 0, none⟩)] w fun e w' => e = .returned (.int .i64 0) ∧ MX B w0 g gl cap gx c (acc L 1 (aSlab c s.p.j) 0 0) (L) { s with p := { s.p with v := ldV L (aSlab c s.p.j), ln := 34 } } w' := by
  have f0 : ∀ s : Wk, (wc s)[0]? = some (.int .i64 s.p.ln) := fun _ => rfl
  have f9 : ∀ s : Wk, (wc s)[9]? = some (.int .u64 s.p.ep) := fun _ => rfl
  have f25 : ∀ s : Wk, (wc s)[25]? = some (.int .u64 s.p.v) := fun _ => rfl
  have f28 : ∀ s : Wk, (wc s)[28]? = some (.int .i64 s.p.j) := fun _ => rfl
  have hv := ldV_wr hL (aSlab c s.p.j)
  have HR := Lib.hid hr
  have HEP := Lib.hid he
  have HAN := Lib.hid (fun w => Pl.slab c hf s.p.j w)
  clear hr he
  have x0 := h.X.cells
  go_enter Try.func129, Try.ntmps129
  go_wp2
  have hS0 : ∃ a' v', MX B w0 g gl cap gx c a' L { s with p := { s.p with v := v' } } w.drew := ⟨a, s.p.v, h.keep (Below.drew (Below.refl _ _))⟩
  refine wp_region_held_drew (S := fun w' => ∃ a' v', MX B w0 g gl cap gx c a' L { s with p := { s.p with v := v' } } w') (by kernel_rfl) hS0 (fun hHeld => ?_)
  clear h hS0 x0
  generalize w.drew = vv at *
  refine wpAnyH_take (i := 0) (oi := _) (v := .pointer (some ⟨gx, 0, none⟩)) rfl (by kernel_rfl) (by kernel_rfl) (by kernel_rfl) (fun _ _ _ h => h) (Or.inl ⟨by rfl, fun w' hSw => by go_simp⟩) hHeld ?_
  try simp only [Act.put, List.getElem_toArray, List.getElem_cons_succ, List.getElem_cons_zero, List.setIfInBounds_toArray, List.set_cons_succ, List.set_cons_zero]
  refine wpAnyH_take (i := 1) (oi := _) (v := .pointer (some ⟨g, 0, none⟩)) rfl (by kernel_rfl) (by kernel_rfl) (by kernel_rfl) (fun _ _ _ h => h) (Or.inl ⟨by rfl, fun w' hSw => by go_simp⟩) hHeld ?_
  try simp only [Act.put, List.getElem_toArray, List.getElem_cons_succ, List.getElem_cons_zero, List.setIfInBounds_toArray, List.set_cons_succ, List.set_cons_zero]
  refine wpAnyH_take (i := 2) (oi := _) (v := .pointer (some ⟨g, 0, none⟩)) rfl (by kernel_rfl) (by kernel_rfl) (by kernel_rfl) (fun _ _ _ h => h) (Or.inl ⟨by rfl, fun w' hSw => by go_simp⟩) hHeld ?_
  try simp only [Act.put, List.getElem_toArray, List.getElem_cons_succ, List.getElem_cons_zero, List.setIfInBounds_toArray, List.set_cons_succ, List.set_cons_zero]
  refine wpAnyH_take (i := 3) (oi := _) (v := .pointer (some ⟨g, 0, none⟩)) rfl (by kernel_rfl) (by kernel_rfl) (by kernel_rfl) (fun _ _ _ h => h) (Or.inl ⟨by rfl, fun w' hSw => by go_simp⟩) hHeld ?_
  try simp only [Act.put, List.getElem_toArray, List.getElem_cons_succ, List.getElem_cons_zero, List.setIfInBounds_toArray, List.set_cons_succ, List.set_cons_zero]
  refine wpAnyH_take (i := 4) (oi := _) (v := .pointer (some ⟨g, 0, none⟩)) rfl (by kernel_rfl) (by kernel_rfl) (by kernel_rfl) (fun _ _ _ h => h) (Or.inl ⟨by rfl, fun w' hSw => by go_simp⟩) hHeld ?_
  try simp only [Act.put, List.getElem_toArray, List.getElem_cons_succ, List.getElem_cons_zero, List.setIfInBounds_toArray, List.set_cons_succ, List.set_cons_zero]
  refine wpAnyH_take (i := 5) (oi := _) (v := cv c) rfl (by kernel_rfl) (by kernel_rfl) (by kernel_rfl) (fun _ _ _ h => h) (Or.inl ⟨by rfl, fun w' hSw => by obtain ⟨a', v', HS⟩ := hSw; have xx := HS.M.B.cells; go_simp⟩) hHeld ?_
  try simp only [Act.put, List.getElem_toArray, List.getElem_cons_succ, List.getElem_cons_zero, List.setIfInBounds_toArray, List.set_cons_succ, List.set_cons_zero]
  refine wpAnyH_take (i := 6) (oi := _) (v := .pointer (some ⟨gx, 0, none⟩)) rfl (by kernel_rfl) (by kernel_rfl) (by kernel_rfl) (fun _ _ _ h => h) (Or.inl ⟨by rfl, fun w' hSw => by go_simp⟩) hHeld ?_
  try simp only [Act.put, List.getElem_toArray, List.getElem_cons_succ, List.getElem_cons_zero, List.setIfInBounds_toArray, List.set_cons_succ, List.set_cons_zero]
  refine wpAnyH_take (i := 7) (oi := _) (v := .pointer (some ⟨gx, 0, none⟩)) rfl (by kernel_rfl) (by kernel_rfl) (by kernel_rfl) (fun _ _ _ h => h) (Or.inl ⟨by rfl, fun w' hSw => by go_simp⟩) hHeld ?_
  try simp only [Act.put, List.getElem_toArray, List.getElem_cons_succ, List.getElem_cons_zero, List.setIfInBounds_toArray, List.set_cons_succ, List.set_cons_zero]
  refine wpAnyH_take (i := 8) (oi := _) (v := .pointer (some ⟨gx, 28, none⟩)) rfl (by kernel_rfl) (by kernel_rfl) (by kernel_rfl) (fun _ _ _ h => h) (Or.inl ⟨by rfl, fun w' hSw => by go_simp⟩) hHeld ?_
  try simp only [Act.put, List.getElem_toArray, List.getElem_cons_succ, List.getElem_cons_zero, List.setIfInBounds_toArray, List.set_cons_succ, List.set_cons_zero]
  refine wpAnyH_take (i := 9) (oi := _) (v := .int .i64 s.p.j) rfl (by kernel_rfl) (by kernel_rfl) (by kernel_rfl) (fun _ _ _ h => h) (Or.inl ⟨by rfl, fun w' hSw => by obtain ⟨a', v', HS⟩ := hSw; have xx := HS.X.cells; go_simp⟩) hHeld ?_
  try simp only [Act.put, List.getElem_toArray, List.getElem_cons_succ, List.getElem_cons_zero, List.setIfInBounds_toArray, List.set_cons_succ, List.set_cons_zero]
  refine wpAnyH_ready (rs := [10]) (by kernel_rfl) (by simp) ?_
  refine AllReadyH.cons (o := _) rfl (fun K hK => ?_) AllReadyH.nil
  go_simp
  refine (HAN.out _).mono ?_
  rintro en z1 ⟨rfl, hb⟩
  obtain ⟨a1, v1, H1⟩ := hHeld
  refine hK.out _ _ ⟨a1, v1, H1.keep hb⟩ (fun hHeld => ?_)
  clear hK K H1 hb
  try simp only [Act.put, List.getElem_toArray, List.getElem_cons_succ, List.getElem_cons_zero, List.setIfInBounds_toArray, List.set_cons_succ, List.set_cons_zero]
  refine wpAnyH_ready (rs := [11]) (by kernel_rfl) (by simp) ?_
  refine AllReadyH.cons (o := _) rfl (fun K hK => ?_) AllReadyH.nil
  go_simp
  obtain ⟨a1, v1, H1⟩ := hHeld
  refine (load_any H1.M hm _).mono ?_
  rintro en z2 ⟨rfl, M2, T2⟩
  have H2 := H1.mem M2 T2
  refine hK.out _ _ ⟨_, v1, H2⟩ (fun hHeld => ?_)
  clear hK K H1 M2 T2
  obtain ⟨lj, hlj⟩ : ∃ v, v = ldV L (aSlab c s.p.j) := ⟨_, rfl⟩
  simp only [← hlj]
  rw [← hlj] at hv HR
  have HV := Lib.hid hlj
  clear hlj
  try simp only [Act.put, List.getElem_toArray, List.getElem_cons_succ, List.getElem_cons_zero, List.setIfInBounds_toArray, List.set_cons_succ, List.set_cons_zero]
  refine wpAnyH_take (i := 12) (oi := _) (v := .pointer (some ⟨gx, 0, none⟩)) rfl (by kernel_rfl) (by kernel_rfl) (by kernel_rfl) (fun _ _ _ h => h) (Or.inl ⟨by rfl, fun w' hSw => by go_simp⟩) hHeld ?_
  try simp only [Act.put, List.getElem_toArray, List.getElem_cons_succ, List.getElem_cons_zero, List.setIfInBounds_toArray, List.set_cons_succ, List.set_cons_zero]
  refine wpAnyH_take (i := 13) (oi := _) (v := .pointer (some ⟨gx, 25, none⟩)) rfl (by kernel_rfl) (by kernel_rfl) (by kernel_rfl) (fun _ _ _ h => h) (Or.inl ⟨by rfl, fun w' hSw => by go_simp⟩) hHeld ?_
  try simp only [Act.put, List.getElem_toArray, List.getElem_cons_succ, List.getElem_cons_zero, List.setIfInBounds_toArray, List.set_cons_succ, List.set_cons_zero]
  refine wpAnyH_ready (rs := [14]) (by kernel_rfl) (by simp) ?_
  refine AllReadyH.cons (o := _) rfl (fun K hK => ?_) AllReadyH.nil
  have x2 := H2.X.cells
  have z2f := H2.X.frozen
  have e25 : (z2.cell? ⟨gx, 25, none⟩).isSome = true := by rw [x2, f25]; rfl
  have H3 := H2.set (s' := { s with p := { s.p with v := lj } }) 25 (.int .u64 lj) rfl
  go_simp
  refine hK.out _ _ ⟨_, lj, H3⟩ (fun hHeld => ?_)
  clear hK K H2 x2 z2f e25
  try simp only [Act.put, List.getElem_toArray, List.getElem_cons_succ, List.getElem_cons_zero, List.setIfInBounds_toArray, List.set_cons_succ, List.set_cons_zero]
  refine wpAnyH_done (by kernel_rfl) ?_ _
  clear hHeld
  obtain ⟨z3, hz3⟩ : ∃ u, u = z2.setCell ⟨gx, 25, none⟩ (.int .u64 lj) := ⟨_, rfl⟩
  rw [← hz3] at H3 ⊢
  clear hz3
  have x3 := H3.X.cells
  have l3 := H3.lt
  have HRD := Lib.hid (fun w => HR.out ▸ ready lj s.p.ep hv.1 hv.2 HEP.out w)
  clear hv
  go_wp2
  refine wp_region_grown (by kernel_rfl) (by kernel_rfl) ?_
  have hg := @gcell
  repeat (go_big_quiet_step (exact grown_of (HRD.out _)))
  refine wpQuiet_nil ?_
  rintro w5 ⟨⟨_, hb5⟩, rfl⟩
  clear hg
  have H5 := H3.keep hb5
  clear x3 l3 H3 hb5
  have H6 := H5.set (s' := { s with p := { s.p with v := lj, ln := 34 } }) 0 (.int .i64 34) rfl
  have xw5 := H5.X.cells
  have zw5 := H5.X.frozen
  have ew5_0 : (w5.cell? ⟨gx, 0, none⟩).isSome = true := by rw [xw5, f0]; rfl
  go_wp2
  go_ret
  have e1 := HV.out
  subst e1
  exact ⟨rfl, H6⟩
set_option maxRecDepth 10000 in
set_option maxHeartbeats 4000000 in
theorem sll33r {B : Nat} {w0 w : World} {g gl cap gx : Nat} {c : Cfg} {a : Acc} {L : List Int} {s : Wk} (h : MX B w0 g gl cap gx c a L s w) (hm : L.length ≤ 1000) (hL : WR L) (hf : c.Wf) (he : s.p.ep < 18446744073709551616) (hl : s.p.ln = 33) (hr : rdyB (ldV L (aSlab c s.p.j)) s.p.ep = true) : Calls Try.prog 78 #[.pointer (some ⟨g, 0, none⟩), .pointer (some ⟨gx, 0, none⟩)] w (LP B w0 g gl cap gx c ⟨acc L 1 (aSlab c s.p.j) 0 0, L, { s.p with v := ldV L (aSlab c s.p.j), ln := 34 }, 0, true⟩ s) := by
  have HC := Lib.hid (slLookr h hm hL hf he hr)
  clear hr
  have f0 : ∀ s : Wk, (wc s)[0]? = some (.int .i64 s.p.ln) := fun _ => rfl
  have t30 : (s.p.ln == 30) = false := by simp [hl]
  have t31 : (s.p.ln == 31) = false := by simp [hl]
  have t32 : (s.p.ln == 32) = false := by simp [hl]
  have t33 : (s.p.ln == 33) = true := by simp [hl]
  have x0 := h.X.cells
  clear hl
  go_enter Try.func78, Try.ntmps78
  go_wp2_with fail
  refine HC.out.mono ?_
  rintro en w1 ⟨rfl, H1⟩
  go_wp2
  go_ret2
  exact ⟨rfl, H1⟩
set_option maxRecDepth 10000 in
set_option maxHeartbeats 4000000 in
theorem slLookg {B : Nat} {w0 w : World} {g gl cap gx : Nat} {c : Cfg} {a : Acc} {L : List Int} {s : Wk} (h : MX B w0 g gl cap gx c a L s w) (hm : L.length ≤ 1000) (hL : WR L) (hf : c.Wf) (he : s.p.ep < 18446744073709551616) (hr : rdyB (ldV L (aSlab c s.p.j)) s.p.ep = false) (hj : c.sl ≤ wrap64 (s.p.j + 1)) : Calls Try.prog 129 #[.pointer (some ⟨g, 0, none⟩), .pointer (some ⟨gx, 0, none⟩)] w fun e w' => e = .returned (.int .i64 2) ∧ MX B w0 g gl cap gx c (acc L 1 (aSlab c s.p.j) 0 0) (L) { s with p := { s.p with v := ldV L (aSlab c s.p.j), j := wrap64 (s.p.j + 1) } } w' := by
  have f0 : ∀ s : Wk, (wc s)[0]? = some (.int .i64 s.p.ln) := fun _ => rfl
  have f9 : ∀ s : Wk, (wc s)[9]? = some (.int .u64 s.p.ep) := fun _ => rfl
  have f25 : ∀ s : Wk, (wc s)[25]? = some (.int .u64 s.p.v) := fun _ => rfl
  have f28 : ∀ s : Wk, (wc s)[28]? = some (.int .i64 s.p.j) := fun _ => rfl
  have hv := ldV_wr hL (aSlab c s.p.j)
  have HR := Lib.hid hr
  have HEP := Lib.hid he
  have HAN := Lib.hid (fun w => Pl.slab c hf s.p.j w)
  clear hr he
  have hd : decide (c.sl ≤ wrap64 (s.p.j + 1)) = true := by simp [hj]
  clear hj
  have x0 := h.X.cells
  go_enter Try.func129, Try.ntmps129
  go_wp2
  have hS0 : ∃ a' v', MX B w0 g gl cap gx c a' L { s with p := { s.p with v := v' } } w.drew := ⟨a, s.p.v, h.keep (Below.drew (Below.refl _ _))⟩
  refine wp_region_held_drew (S := fun w' => ∃ a' v', MX B w0 g gl cap gx c a' L { s with p := { s.p with v := v' } } w') (by kernel_rfl) hS0 (fun hHeld => ?_)
  clear h hS0 x0
  generalize w.drew = vv at *
  refine wpAnyH_take (i := 0) (oi := _) (v := .pointer (some ⟨gx, 0, none⟩)) rfl (by kernel_rfl) (by kernel_rfl) (by kernel_rfl) (fun _ _ _ h => h) (Or.inl ⟨by rfl, fun w' hSw => by go_simp⟩) hHeld ?_
  try simp only [Act.put, List.getElem_toArray, List.getElem_cons_succ, List.getElem_cons_zero, List.setIfInBounds_toArray, List.set_cons_succ, List.set_cons_zero]
  refine wpAnyH_take (i := 1) (oi := _) (v := .pointer (some ⟨g, 0, none⟩)) rfl (by kernel_rfl) (by kernel_rfl) (by kernel_rfl) (fun _ _ _ h => h) (Or.inl ⟨by rfl, fun w' hSw => by go_simp⟩) hHeld ?_
  try simp only [Act.put, List.getElem_toArray, List.getElem_cons_succ, List.getElem_cons_zero, List.setIfInBounds_toArray, List.set_cons_succ, List.set_cons_zero]
  refine wpAnyH_take (i := 2) (oi := _) (v := .pointer (some ⟨g, 0, none⟩)) rfl (by kernel_rfl) (by kernel_rfl) (by kernel_rfl) (fun _ _ _ h => h) (Or.inl ⟨by rfl, fun w' hSw => by go_simp⟩) hHeld ?_
  try simp only [Act.put, List.getElem_toArray, List.getElem_cons_succ, List.getElem_cons_zero, List.setIfInBounds_toArray, List.set_cons_succ, List.set_cons_zero]
  refine wpAnyH_take (i := 3) (oi := _) (v := .pointer (some ⟨g, 0, none⟩)) rfl (by kernel_rfl) (by kernel_rfl) (by kernel_rfl) (fun _ _ _ h => h) (Or.inl ⟨by rfl, fun w' hSw => by go_simp⟩) hHeld ?_
  try simp only [Act.put, List.getElem_toArray, List.getElem_cons_succ, List.getElem_cons_zero, List.setIfInBounds_toArray, List.set_cons_succ, List.set_cons_zero]
  refine wpAnyH_take (i := 4) (oi := _) (v := .pointer (some ⟨g, 0, none⟩)) rfl (by kernel_rfl) (by kernel_rfl) (by kernel_rfl) (fun _ _ _ h => h) (Or.inl ⟨by rfl, fun w' hSw => by go_simp⟩) hHeld ?_
  try simp only [Act.put, List.getElem_toArray, List.getElem_cons_succ, List.getElem_cons_zero, List.setIfInBounds_toArray, List.set_cons_succ, List.set_cons_zero]
  refine wpAnyH_take (i := 5) (oi := _) (v := cv c) rfl (by kernel_rfl) (by kernel_rfl) (by kernel_rfl) (fun _ _ _ h => h) (Or.inl ⟨by rfl, fun w' hSw => by obtain ⟨a', v', HS⟩ := hSw; have xx := HS.M.B.cells; go_simp⟩) hHeld ?_
  try simp only [Act.put, List.getElem_toArray, List.getElem_cons_succ, List.getElem_cons_zero, List.setIfInBounds_toArray, List.set_cons_succ, List.set_cons_zero]
  refine wpAnyH_take (i := 6) (oi := _) (v := .pointer (some ⟨gx, 0, none⟩)) rfl (by kernel_rfl) (by kernel_rfl) (by kernel_rfl) (fun _ _ _ h => h) (Or.inl ⟨by rfl, fun w' hSw => by go_simp⟩) hHeld ?_
  try simp only [Act.put, List.getElem_toArray, List.getElem_cons_succ, List.getElem_cons_zero, List.setIfInBounds_toArray, List.set_cons_succ, List.set_cons_zero]
  refine wpAnyH_take (i := 7) (oi := _) (v := .pointer (some ⟨gx, 0, none⟩)) rfl (by kernel_rfl) (by kernel_rfl) (by kernel_rfl) (fun _ _ _ h => h) (Or.inl ⟨by rfl, fun w' hSw => by go_simp⟩) hHeld ?_
  try simp only [Act.put, List.getElem_toArray, List.getElem_cons_succ, List.getElem_cons_zero, List.setIfInBounds_toArray, List.set_cons_succ, List.set_cons_zero]
  refine wpAnyH_take (i := 8) (oi := _) (v := .pointer (some ⟨gx, 28, none⟩)) rfl (by kernel_rfl) (by kernel_rfl) (by kernel_rfl) (fun _ _ _ h => h) (Or.inl ⟨by rfl, fun w' hSw => by go_simp⟩) hHeld ?_
  try simp only [Act.put, List.getElem_toArray, List.getElem_cons_succ, List.getElem_cons_zero, List.setIfInBounds_toArray, List.set_cons_succ, List.set_cons_zero]
  refine wpAnyH_take (i := 9) (oi := _) (v := .int .i64 s.p.j) rfl (by kernel_rfl) (by kernel_rfl) (by kernel_rfl) (fun _ _ _ h => h) (Or.inl ⟨by rfl, fun w' hSw => by obtain ⟨a', v', HS⟩ := hSw; have xx := HS.X.cells; go_simp⟩) hHeld ?_
  try simp only [Act.put, List.getElem_toArray, List.getElem_cons_succ, List.getElem_cons_zero, List.setIfInBounds_toArray, List.set_cons_succ, List.set_cons_zero]
  refine wpAnyH_ready (rs := [10]) (by kernel_rfl) (by simp) ?_
  refine AllReadyH.cons (o := _) rfl (fun K hK => ?_) AllReadyH.nil
  go_simp
  refine (HAN.out _).mono ?_
  rintro en z1 ⟨rfl, hb⟩
  obtain ⟨a1, v1, H1⟩ := hHeld
  refine hK.out _ _ ⟨a1, v1, H1.keep hb⟩ (fun hHeld => ?_)
  clear hK K H1 hb
  try simp only [Act.put, List.getElem_toArray, List.getElem_cons_succ, List.getElem_cons_zero, List.setIfInBounds_toArray, List.set_cons_succ, List.set_cons_zero]
  refine wpAnyH_ready (rs := [11]) (by kernel_rfl) (by simp) ?_
  refine AllReadyH.cons (o := _) rfl (fun K hK => ?_) AllReadyH.nil
  go_simp
  obtain ⟨a1, v1, H1⟩ := hHeld
  refine (load_any H1.M hm _).mono ?_
  rintro en z2 ⟨rfl, M2, T2⟩
  have H2 := H1.mem M2 T2
  refine hK.out _ _ ⟨_, v1, H2⟩ (fun hHeld => ?_)
  clear hK K H1 M2 T2
  obtain ⟨lj, hlj⟩ : ∃ v, v = ldV L (aSlab c s.p.j) := ⟨_, rfl⟩
  simp only [← hlj]
  rw [← hlj] at hv HR
  have HV := Lib.hid hlj
  clear hlj
  try simp only [Act.put, List.getElem_toArray, List.getElem_cons_succ, List.getElem_cons_zero, List.setIfInBounds_toArray, List.set_cons_succ, List.set_cons_zero]
  refine wpAnyH_take (i := 12) (oi := _) (v := .pointer (some ⟨gx, 0, none⟩)) rfl (by kernel_rfl) (by kernel_rfl) (by kernel_rfl) (fun _ _ _ h => h) (Or.inl ⟨by rfl, fun w' hSw => by go_simp⟩) hHeld ?_
  try simp only [Act.put, List.getElem_toArray, List.getElem_cons_succ, List.getElem_cons_zero, List.setIfInBounds_toArray, List.set_cons_succ, List.set_cons_zero]
  refine wpAnyH_take (i := 13) (oi := _) (v := .pointer (some ⟨gx, 25, none⟩)) rfl (by kernel_rfl) (by kernel_rfl) (by kernel_rfl) (fun _ _ _ h => h) (Or.inl ⟨by rfl, fun w' hSw => by go_simp⟩) hHeld ?_
  try simp only [Act.put, List.getElem_toArray, List.getElem_cons_succ, List.getElem_cons_zero, List.setIfInBounds_toArray, List.set_cons_succ, List.set_cons_zero]
  refine wpAnyH_ready (rs := [14]) (by kernel_rfl) (by simp) ?_
  refine AllReadyH.cons (o := _) rfl (fun K hK => ?_) AllReadyH.nil
  have x2 := H2.X.cells
  have z2f := H2.X.frozen
  have e25 : (z2.cell? ⟨gx, 25, none⟩).isSome = true := by rw [x2, f25]; rfl
  have H3 := H2.set (s' := { s with p := { s.p with v := lj } }) 25 (.int .u64 lj) rfl
  go_simp
  refine hK.out _ _ ⟨_, lj, H3⟩ (fun hHeld => ?_)
  clear hK K H2 x2 z2f e25
  try simp only [Act.put, List.getElem_toArray, List.getElem_cons_succ, List.getElem_cons_zero, List.setIfInBounds_toArray, List.set_cons_succ, List.set_cons_zero]
  refine wpAnyH_done (by kernel_rfl) ?_ _
  clear hHeld
  obtain ⟨z3, hz3⟩ : ∃ u, u = z2.setCell ⟨gx, 25, none⟩ (.int .u64 lj) := ⟨_, rfl⟩
  rw [← hz3] at H3 ⊢
  clear hz3
  have x3 := H3.X.cells
  have l3 := H3.lt
  have HRD := Lib.hid (fun w => HR.out ▸ ready lj s.p.ep hv.1 hv.2 HEP.out w)
  clear hv
  go_wp2
  refine wp_region_grown (by kernel_rfl) (by kernel_rfl) ?_
  have hg := @gcell
  repeat (go_big_quiet_step (exact grown_of (HRD.out _)))
  refine wpQuiet_nil ?_
  rintro w5 ⟨⟨_, hb5⟩, rfl⟩
  clear hg
  have H5 := H3.keep hb5
  clear x3 l3 H3 hb5
  have H6 := H5.set (s' := { s with p := { s.p with v := lj, j := wrap64 (s.p.j + 1) } }) 28 (.int .i64 (wrap64 (s.p.j + 1))) rfl
  have xw5 := H5.X.cells
  have zw5 := H5.X.frozen
  have ew5_28 : (w5.cell? ⟨gx, 28, none⟩).isSome = true := by rw [xw5, f28]; rfl
  go_wp2
  generalize w5.setCell ⟨gx, 28, none⟩ (.int .i64 (wrap64 (s.p.j + 1))) = w6 at *
  clear xw5 zw5 ew5_28 H5
  have x6 := H6.X.cells
  have m6 := H6.M.B.cells
  have lx6 := H6.lt
  have lg6 := H6.M.lt.1
  refine wp_region_grown (by kernel_rfl) (by kernel_rfl) ?_
  have hg := @gcell
  repeat (go_big_quiet_step (fail))
  refine wpQuiet_nil ?_
  rintro w7 ⟨⟨_, hb7⟩, rfl⟩
  clear hg
  have H7 := H6.keep hb7
  clear x6 m6 lx6 lg6 H6 hb7
  go_wp2
  go_ret
  have e1 := HV.out
  subst e1
  exact ⟨rfl, H7⟩
set_option maxRecDepth 10000 in
set_option maxHeartbeats 4000000 in
theorem sll33g {B : Nat} {w0 w : World} {g gl cap gx : Nat} {c : Cfg} {a : Acc} {L : List Int} {s : Wk} (h : MX B w0 g gl cap gx c a L s w) (hm : L.length ≤ 1000) (hL : WR L) (hf : c.Wf) (he : s.p.ep < 18446744073709551616) (hl : s.p.ln = 33) (hr : rdyB (ldV L (aSlab c s.p.j)) s.p.ep = false) (hj : c.sl ≤ wrap64 (s.p.j + 1)) : Calls Try.prog 78 #[.pointer (some ⟨g, 0, none⟩), .pointer (some ⟨gx, 0, none⟩)] w (LP B w0 g gl cap gx c ⟨acc L 1 (aSlab c s.p.j) 0 0, L, { s.p with v := ldV L (aSlab c s.p.j), j := wrap64 (s.p.j + 1) }, 2, true⟩ s) := by
  have HC := Lib.hid (slLookg h hm hL hf he hr hj)
  clear hr hj
  have f0 : ∀ s : Wk, (wc s)[0]? = some (.int .i64 s.p.ln) := fun _ => rfl
  have t30 : (s.p.ln == 30) = false := by simp [hl]
  have t31 : (s.p.ln == 31) = false := by simp [hl]
  have t32 : (s.p.ln == 32) = false := by simp [hl]
  have t33 : (s.p.ln == 33) = true := by simp [hl]
  have x0 := h.X.cells
  clear hl
  go_enter Try.func78, Try.ntmps78
  go_wp2_with fail
  refine HC.out.mono ?_
  rintro en w1 ⟨rfl, H1⟩
  go_wp2
  go_ret2
  exact ⟨rfl, H1⟩
set_option maxRecDepth 10000 in
set_option maxHeartbeats 4000000 in
theorem slLookn {B : Nat} {w0 w : World} {g gl cap gx : Nat} {c : Cfg} {a : Acc} {L : List Int} {s : Wk} (h : MX B w0 g gl cap gx c a L s w) (hm : L.length ≤ 1000) (hL : WR L) (hf : c.Wf) (he : s.p.ep < 18446744073709551616) (hr : rdyB (ldV L (aSlab c s.p.j)) s.p.ep = false) (hj : ¬ c.sl ≤ wrap64 (s.p.j + 1)) : Calls Try.prog 129 #[.pointer (some ⟨g, 0, none⟩), .pointer (some ⟨gx, 0, none⟩)] w fun e w' => e = .returned (.int .i64 0) ∧ MX B w0 g gl cap gx c (acc L 1 (aSlab c s.p.j) 0 0) (L) { s with p := { s.p with v := ldV L (aSlab c s.p.j), j := wrap64 (s.p.j + 1) } } w' := by
  have f0 : ∀ s : Wk, (wc s)[0]? = some (.int .i64 s.p.ln) := fun _ => rfl
  have f9 : ∀ s : Wk, (wc s)[9]? = some (.int .u64 s.p.ep) := fun _ => rfl
  have f25 : ∀ s : Wk, (wc s)[25]? = some (.int .u64 s.p.v) := fun _ => rfl
  have f28 : ∀ s : Wk, (wc s)[28]? = some (.int .i64 s.p.j) := fun _ => rfl
  have hv := ldV_wr hL (aSlab c s.p.j)
  have HR := Lib.hid hr
  have HEP := Lib.hid he
  have HAN := Lib.hid (fun w => Pl.slab c hf s.p.j w)
  clear hr he
  have hd : decide (c.sl ≤ wrap64 (s.p.j + 1)) = false := by simp; omega
  clear hj
  have x0 := h.X.cells
  go_enter Try.func129, Try.ntmps129
  go_wp2
  have hS0 : ∃ a' v', MX B w0 g gl cap gx c a' L { s with p := { s.p with v := v' } } w.drew := ⟨a, s.p.v, h.keep (Below.drew (Below.refl _ _))⟩
  refine wp_region_held_drew (S := fun w' => ∃ a' v', MX B w0 g gl cap gx c a' L { s with p := { s.p with v := v' } } w') (by kernel_rfl) hS0 (fun hHeld => ?_)
  clear h hS0 x0
  generalize w.drew = vv at *
  refine wpAnyH_take (i := 0) (oi := _) (v := .pointer (some ⟨gx, 0, none⟩)) rfl (by kernel_rfl) (by kernel_rfl) (by kernel_rfl) (fun _ _ _ h => h) (Or.inl ⟨by rfl, fun w' hSw => by go_simp⟩) hHeld ?_
  try simp only [Act.put, List.getElem_toArray, List.getElem_cons_succ, List.getElem_cons_zero, List.setIfInBounds_toArray, List.set_cons_succ, List.set_cons_zero]
  refine wpAnyH_take (i := 1) (oi := _) (v := .pointer (some ⟨g, 0, none⟩)) rfl (by kernel_rfl) (by kernel_rfl) (by kernel_rfl) (fun _ _ _ h => h) (Or.inl ⟨by rfl, fun w' hSw => by go_simp⟩) hHeld ?_
  try simp only [Act.put, List.getElem_toArray, List.getElem_cons_succ, List.getElem_cons_zero, List.setIfInBounds_toArray, List.set_cons_succ, List.set_cons_zero]
  refine wpAnyH_take (i := 2) (oi := _) (v := .pointer (some ⟨g, 0, none⟩)) rfl (by kernel_rfl) (by kernel_rfl) (by kernel_rfl) (fun _ _ _ h => h) (Or.inl ⟨by rfl, fun w' hSw => by go_simp⟩) hHeld ?_
  try simp only [Act.put, List.getElem_toArray, List.getElem_cons_succ, List.getElem_cons_zero, List.setIfInBounds_toArray, List.set_cons_succ, List.set_cons_zero]
  refine wpAnyH_take (i := 3) (oi := _) (v := .pointer (some ⟨g, 0, none⟩)) rfl (by kernel_rfl) (by kernel_rfl) (by kernel_rfl) (fun _ _ _ h => h) (Or.inl ⟨by rfl, fun w' hSw => by go_simp⟩) hHeld ?_
  try simp only [Act.put, List.getElem_toArray, List.getElem_cons_succ, List.getElem_cons_zero, List.setIfInBounds_toArray, List.set_cons_succ, List.set_cons_zero]
  refine wpAnyH_take (i := 4) (oi := _) (v := .pointer (some ⟨g, 0, none⟩)) rfl (by kernel_rfl) (by kernel_rfl) (by kernel_rfl) (fun _ _ _ h => h) (Or.inl ⟨by rfl, fun w' hSw => by go_simp⟩) hHeld ?_
  try simp only [Act.put, List.getElem_toArray, List.getElem_cons_succ, List.getElem_cons_zero, List.setIfInBounds_toArray, List.set_cons_succ, List.set_cons_zero]
  refine wpAnyH_take (i := 5) (oi := _) (v := cv c) rfl (by kernel_rfl) (by kernel_rfl) (by kernel_rfl) (fun _ _ _ h => h) (Or.inl ⟨by rfl, fun w' hSw => by obtain ⟨a', v', HS⟩ := hSw; have xx := HS.M.B.cells; go_simp⟩) hHeld ?_
  try simp only [Act.put, List.getElem_toArray, List.getElem_cons_succ, List.getElem_cons_zero, List.setIfInBounds_toArray, List.set_cons_succ, List.set_cons_zero]
  refine wpAnyH_take (i := 6) (oi := _) (v := .pointer (some ⟨gx, 0, none⟩)) rfl (by kernel_rfl) (by kernel_rfl) (by kernel_rfl) (fun _ _ _ h => h) (Or.inl ⟨by rfl, fun w' hSw => by go_simp⟩) hHeld ?_
  try simp only [Act.put, List.getElem_toArray, List.getElem_cons_succ, List.getElem_cons_zero, List.setIfInBounds_toArray, List.set_cons_succ, List.set_cons_zero]
  refine wpAnyH_take (i := 7) (oi := _) (v := .pointer (some ⟨gx, 0, none⟩)) rfl (by kernel_rfl) (by kernel_rfl) (by kernel_rfl) (fun _ _ _ h => h) (Or.inl ⟨by rfl, fun w' hSw => by go_simp⟩) hHeld ?_
  try simp only [Act.put, List.getElem_toArray, List.getElem_cons_succ, List.getElem_cons_zero, List.setIfInBounds_toArray, List.set_cons_succ, List.set_cons_zero]
  refine wpAnyH_take (i := 8) (oi := _) (v := .pointer (some ⟨gx, 28, none⟩)) rfl (by kernel_rfl) (by kernel_rfl) (by kernel_rfl) (fun _ _ _ h => h) (Or.inl ⟨by rfl, fun w' hSw => by go_simp⟩) hHeld ?_
  try simp only [Act.put, List.getElem_toArray, List.getElem_cons_succ, List.getElem_cons_zero, List.setIfInBounds_toArray, List.set_cons_succ, List.set_cons_zero]
  refine wpAnyH_take (i := 9) (oi := _) (v := .int .i64 s.p.j) rfl (by kernel_rfl) (by kernel_rfl) (by kernel_rfl) (fun _ _ _ h => h) (Or.inl ⟨by rfl, fun w' hSw => by obtain ⟨a', v', HS⟩ := hSw; have xx := HS.X.cells; go_simp⟩) hHeld ?_
  try simp only [Act.put, List.getElem_toArray, List.getElem_cons_succ, List.getElem_cons_zero, List.setIfInBounds_toArray, List.set_cons_succ, List.set_cons_zero]
  refine wpAnyH_ready (rs := [10]) (by kernel_rfl) (by simp) ?_
  refine AllReadyH.cons (o := _) rfl (fun K hK => ?_) AllReadyH.nil
  go_simp
  refine (HAN.out _).mono ?_
  rintro en z1 ⟨rfl, hb⟩
  obtain ⟨a1, v1, H1⟩ := hHeld
  refine hK.out _ _ ⟨a1, v1, H1.keep hb⟩ (fun hHeld => ?_)
  clear hK K H1 hb
  try simp only [Act.put, List.getElem_toArray, List.getElem_cons_succ, List.getElem_cons_zero, List.setIfInBounds_toArray, List.set_cons_succ, List.set_cons_zero]
  refine wpAnyH_ready (rs := [11]) (by kernel_rfl) (by simp) ?_
  refine AllReadyH.cons (o := _) rfl (fun K hK => ?_) AllReadyH.nil
  go_simp
  obtain ⟨a1, v1, H1⟩ := hHeld
  refine (load_any H1.M hm _).mono ?_
  rintro en z2 ⟨rfl, M2, T2⟩
  have H2 := H1.mem M2 T2
  refine hK.out _ _ ⟨_, v1, H2⟩ (fun hHeld => ?_)
  clear hK K H1 M2 T2
  obtain ⟨lj, hlj⟩ : ∃ v, v = ldV L (aSlab c s.p.j) := ⟨_, rfl⟩
  simp only [← hlj]
  rw [← hlj] at hv HR
  have HV := Lib.hid hlj
  clear hlj
  try simp only [Act.put, List.getElem_toArray, List.getElem_cons_succ, List.getElem_cons_zero, List.setIfInBounds_toArray, List.set_cons_succ, List.set_cons_zero]
  refine wpAnyH_take (i := 12) (oi := _) (v := .pointer (some ⟨gx, 0, none⟩)) rfl (by kernel_rfl) (by kernel_rfl) (by kernel_rfl) (fun _ _ _ h => h) (Or.inl ⟨by rfl, fun w' hSw => by go_simp⟩) hHeld ?_
  try simp only [Act.put, List.getElem_toArray, List.getElem_cons_succ, List.getElem_cons_zero, List.setIfInBounds_toArray, List.set_cons_succ, List.set_cons_zero]
  refine wpAnyH_take (i := 13) (oi := _) (v := .pointer (some ⟨gx, 25, none⟩)) rfl (by kernel_rfl) (by kernel_rfl) (by kernel_rfl) (fun _ _ _ h => h) (Or.inl ⟨by rfl, fun w' hSw => by go_simp⟩) hHeld ?_
  try simp only [Act.put, List.getElem_toArray, List.getElem_cons_succ, List.getElem_cons_zero, List.setIfInBounds_toArray, List.set_cons_succ, List.set_cons_zero]
  refine wpAnyH_ready (rs := [14]) (by kernel_rfl) (by simp) ?_
  refine AllReadyH.cons (o := _) rfl (fun K hK => ?_) AllReadyH.nil
  have x2 := H2.X.cells
  have z2f := H2.X.frozen
  have e25 : (z2.cell? ⟨gx, 25, none⟩).isSome = true := by rw [x2, f25]; rfl
  have H3 := H2.set (s' := { s with p := { s.p with v := lj } }) 25 (.int .u64 lj) rfl
  go_simp
  refine hK.out _ _ ⟨_, lj, H3⟩ (fun hHeld => ?_)
  clear hK K H2 x2 z2f e25
  try simp only [Act.put, List.getElem_toArray, List.getElem_cons_succ, List.getElem_cons_zero, List.setIfInBounds_toArray, List.set_cons_succ, List.set_cons_zero]
  refine wpAnyH_done (by kernel_rfl) ?_ _
  clear hHeld
  obtain ⟨z3, hz3⟩ : ∃ u, u = z2.setCell ⟨gx, 25, none⟩ (.int .u64 lj) := ⟨_, rfl⟩
  rw [← hz3] at H3 ⊢
  clear hz3
  have x3 := H3.X.cells
  have l3 := H3.lt
  have HRD := Lib.hid (fun w => HR.out ▸ ready lj s.p.ep hv.1 hv.2 HEP.out w)
  clear hv
  go_wp2
  refine wp_region_grown (by kernel_rfl) (by kernel_rfl) ?_
  have hg := @gcell
  repeat (go_big_quiet_step (exact grown_of (HRD.out _)))
  refine wpQuiet_nil ?_
  rintro w5 ⟨⟨_, hb5⟩, rfl⟩
  clear hg
  have H5 := H3.keep hb5
  clear x3 l3 H3 hb5
  have H6 := H5.set (s' := { s with p := { s.p with v := lj, j := wrap64 (s.p.j + 1) } }) 28 (.int .i64 (wrap64 (s.p.j + 1))) rfl
  have xw5 := H5.X.cells
  have zw5 := H5.X.frozen
  have ew5_28 : (w5.cell? ⟨gx, 28, none⟩).isSome = true := by rw [xw5, f28]; rfl
  go_wp2
  generalize w5.setCell ⟨gx, 28, none⟩ (.int .i64 (wrap64 (s.p.j + 1))) = w6 at *
  clear xw5 zw5 ew5_28 H5
  have x6 := H6.X.cells
  have m6 := H6.M.B.cells
  have lx6 := H6.lt
  have lg6 := H6.M.lt.1
  refine wp_region_grown (by kernel_rfl) (by kernel_rfl) ?_
  have hg := @gcell
  repeat (go_big_quiet_step (fail))
  refine wpQuiet_nil ?_
  rintro w7 ⟨⟨_, hb7⟩, rfl⟩
  clear hg
  have H7 := H6.keep hb7
  clear x6 m6 lx6 lg6 H6 hb7
  go_wp2
  go_ret
  have e1 := HV.out
  subst e1
  exact ⟨rfl, H7⟩
set_option maxRecDepth 10000 in
set_option maxHeartbeats 4000000 in
theorem sll33n {B : Nat} {w0 w : World} {g gl cap gx : Nat} {c : Cfg} {a : Acc} {L : List Int} {s : Wk} (h : MX B w0 g gl cap gx c a L s w) (hm : L.length ≤ 1000) (hL : WR L) (hf : c.Wf) (he : s.p.ep < 18446744073709551616) (hl : s.p.ln = 33) (hr : rdyB (ldV L (aSlab c s.p.j)) s.p.ep = false) (hj : ¬ c.sl ≤ wrap64 (s.p.j + 1)) : Calls Try.prog 78 #[.pointer (some ⟨g, 0, none⟩), .pointer (some ⟨gx, 0, none⟩)] w (LP B w0 g gl cap gx c ⟨acc L 1 (aSlab c s.p.j) 0 0, L, { s.p with v := ldV L (aSlab c s.p.j), j := wrap64 (s.p.j + 1) }, 0, true⟩ s) := by
  have HC := Lib.hid (slLookn h hm hL hf he hr hj)
  clear hr hj
  have f0 : ∀ s : Wk, (wc s)[0]? = some (.int .i64 s.p.ln) := fun _ => rfl
  have t30 : (s.p.ln == 30) = false := by simp [hl]
  have t31 : (s.p.ln == 31) = false := by simp [hl]
  have t32 : (s.p.ln == 32) = false := by simp [hl]
  have t33 : (s.p.ln == 33) = true := by simp [hl]
  have x0 := h.X.cells
  clear hl
  go_enter Try.func78, Try.ntmps78
  go_wp2_with fail
  refine HC.out.mono ?_
  rintro en w1 ⟨rfl, H1⟩
  go_wp2
  go_ret2
  exact ⟨rfl, H1⟩
set_option maxRecDepth 10000 in
set_option maxHeartbeats 4000000 in
theorem slChangeY {B : Nat} {w0 w : World} {g gl cap gx : Nat} {c : Cfg} {a : Acc} {L : List Int} {s : Wk} (h : MX B w0 g gl cap gx c a L s w) (hm : L.length ≤ 1000) (hL : WR L) (hf : c.Wf) (jj st : Int) (hst : Pk.sl st 0 0 = st) (hb : csB L (aSlab c jj) s.p.v = true) : Calls Try.prog 130 #[.pointer (some ⟨g, 0, none⟩), .pointer (some ⟨gx, 0, none⟩), .int .i64 jj, .int .i64 st] w fun e w' => e = .returned (.int .i64 1) ∧ MX B w0 g gl cap gx c (acc L 3 (aSlab c jj) s.p.v st) (csL L (aSlab c jj) s.p.v st) s w' := by
  have f25 : ∀ s : Wk, (wc s)[25]? = some (.int .u64 s.p.v) := fun _ => rfl
  have HB := Lib.hid hb
  have HST := Lib.hid hst
  have HAN := Lib.hid (fun w => Pl.slab c hf jj w)
  have x0 := h.X.cells
  have m0 := h.M.B.cells
  have lx := h.lt
  have lg := h.M.lt.1
  clear hb hst
  go_enter Try.func130, Try.ntmps130
  go_wp2
  refine wp_region_grown_tail 13 (by kernel_rfl) (by kernel_rfl) ?_
  simp only [List.take_succ_cons, List.take_zero, List.drop_succ_cons, List.drop_zero]
  have hg := @gcell
  repeat (go_big_quiet_step (first | exact grown_of (HAN.out _) | exact grown_same (Pk.slab st 0 0 _)))
  refine wpQuiet_nil ?_
  rintro w1 ⟨⟨_, hb1⟩, rfl⟩
  clear hg
  rw [HST.out]
  have H1 := h.keep hb1
  have hcas := cas_any H1.M hm (aSlab c jj) s.p.v st
  rw [HB.out] at hcas
  have HCA := Lib.hid hcas
  clear hcas x0 m0 lx lg h hb1
  go_wp2_with fail
  refine HCA.out.mono ?_
  rintro en w2 ⟨rfl, M2, T2⟩
  have H2 := H1.mem M2 T2
  go_wp2
  go_ret
  exact ⟨rfl, H2⟩
set_option maxRecDepth 10000 in
set_option maxHeartbeats 4000000 in
theorem sll34y {B : Nat} {w0 w : World} {g gl cap gx : Nat} {c : Cfg} {a : Acc} {L : List Int} {s : Wk} (h : MX B w0 g gl cap gx c a L s w) (hm : L.length ≤ 1000) (hL : WR L) (hf : c.Wf) (hl : s.p.ln = 34) (hb : csB L (aSlab c s.p.j) s.p.v = true) : Calls Try.prog 78 #[.pointer (some ⟨g, 0, none⟩), .pointer (some ⟨gx, 0, none⟩)] w (LP B w0 g gl cap gx c ⟨acc L 3 (aSlab c s.p.j) s.p.v 1, csL L (aSlab c s.p.j) s.p.v 1, s.p, 1, true⟩ s) := by
  have HC := Lib.hid (slChangeY h hm hL hf s.p.j 1 (by decide) hb)
  clear hb
  have f0 : ∀ s : Wk, (wc s)[0]? = some (.int .i64 s.p.ln) := fun _ => rfl
  have f28 : ∀ s : Wk, (wc s)[28]? = some (.int .i64 s.p.j) := fun _ => rfl
  have t30 : (s.p.ln == 30) = false := by simp [hl]
  have t31 : (s.p.ln == 31) = false := by simp [hl]
  have t32 : (s.p.ln == 32) = false := by simp [hl]
  have t33 : (s.p.ln == 33) = false := by simp [hl]
  have t34 : (s.p.ln == 34) = true := by simp [hl]
  have x0 := h.X.cells
  clear hl
  go_enter Try.func78, Try.ntmps78
  go_wp2_with fail
  refine HC.out.mono ?_
  rintro en w1 ⟨rfl, H1⟩
  go_wp2
  go_ret2
  exact ⟨rfl, H1⟩
set_option maxRecDepth 10000 in
set_option maxHeartbeats 4000000 in
theorem sll37y {B : Nat} {w0 w : World} {g gl cap gx : Nat} {c : Cfg} {a : Acc} {L : List Int} {s : Wk} (h : MX B w0 g gl cap gx c a L s w) (hm : L.length ≤ 1000) (hL : WR L) (hf : c.Wf) (hl : s.p.ln = 37) (hb : csB L (aSlab c s.p.o3) s.p.v = true) : Calls Try.prog 78 #[.pointer (some ⟨g, 0, none⟩), .pointer (some ⟨gx, 0, none⟩)] w (LP B w0 g gl cap gx c ⟨acc L 3 (aSlab c s.p.o3) s.p.v 2, csL L (aSlab c s.p.o3) s.p.v 2, s.p, 1, true⟩ s) := by
  have HC := Lib.hid (slChangeY h hm hL hf s.p.o3 2 (by decide) hb)
  clear hb
  have f0 : ∀ s : Wk, (wc s)[0]? = some (.int .i64 s.p.ln) := fun _ => rfl
  have f4 : ∀ s : Wk, (wc s)[4]? = some (.int .i64 s.p.o3) := fun _ => rfl
  have t30 : (s.p.ln == 30) = false := by simp [hl]
  have t31 : (s.p.ln == 31) = false := by simp [hl]
  have t32 : (s.p.ln == 32) = false := by simp [hl]
  have t33 : (s.p.ln == 33) = false := by simp [hl]
  have t34 : (s.p.ln == 34) = false := by simp [hl]
  have t35 : (s.p.ln == 35) = false := by simp [hl]
  have t36 : (s.p.ln == 36) = false := by simp [hl]
  have t37 : (s.p.ln == 37) = true := by simp [hl]
  have x0 := h.X.cells
  clear hl
  go_enter Try.func78, Try.ntmps78
  go_wp2_with fail
  refine HC.out.mono ?_
  rintro en w1 ⟨rfl, H1⟩
  go_wp2
  go_ret2
  exact ⟨rfl, H1⟩
set_option maxRecDepth 10000 in
set_option maxHeartbeats 4000000 in
theorem slChangeN {B : Nat} {w0 w : World} {g gl cap gx : Nat} {c : Cfg} {a : Acc} {L : List Int} {s : Wk} (h : MX B w0 g gl cap gx c a L s w) (hm : L.length ≤ 1000) (hL : WR L) (hf : c.Wf) (jj st : Int) (hst : Pk.sl st 0 0 = st) (hb : csB L (aSlab c jj) s.p.v = false) : Calls Try.prog 130 #[.pointer (some ⟨g, 0, none⟩), .pointer (some ⟨gx, 0, none⟩), .int .i64 jj, .int .i64 st] w fun e w' => e = .returned (.int .i64 0) ∧ MX B w0 g gl cap gx c (acc L 3 (aSlab c jj) s.p.v st) (csL L (aSlab c jj) s.p.v st) { s with p := { s.p with ln := wrap64 (s.p.ln - 1) } } w' := by
  have f25 : ∀ s : Wk, (wc s)[25]? = some (.int .u64 s.p.v) := fun _ => rfl
  have f0 : ∀ s : Wk, (wc s)[0]? = some (.int .i64 s.p.ln) := fun _ => rfl
  have HB := Lib.hid hb
  have HST := Lib.hid hst
  have HAN := Lib.hid (fun w => Pl.slab c hf jj w)
  have x0 := h.X.cells
  have m0 := h.M.B.cells
  have lx := h.lt
  have lg := h.M.lt.1
  clear hb hst
  go_enter Try.func130, Try.ntmps130
  go_wp2
  refine wp_region_grown_tail 13 (by kernel_rfl) (by kernel_rfl) ?_
  simp only [List.take_succ_cons, List.take_zero, List.drop_succ_cons, List.drop_zero]
  have hg := @gcell
  repeat (go_big_quiet_step (first | exact grown_of (HAN.out _) | exact grown_same (Pk.slab st 0 0 _)))
  refine wpQuiet_nil ?_
  rintro w1 ⟨⟨_, hb1⟩, rfl⟩
  clear hg
  rw [HST.out]
  have H1 := h.keep hb1
  have hcas := cas_any H1.M hm (aSlab c jj) s.p.v st
  rw [HB.out] at hcas
  have HCA := Lib.hid hcas
  clear hcas x0 m0 lx lg h hb1
  go_wp2_with fail
  refine HCA.out.mono ?_
  rintro en w2 ⟨rfl, M2, T2⟩
  have H2 := H1.mem M2 T2
  have H3 := H2.set (s' := { s with p := { s.p with ln := wrap64 (s.p.ln - 1) } }) 0 (.int .i64 (wrap64 (s.p.ln - 1))) rfl
  have xw2 := H2.X.cells
  have zw2 := H2.X.frozen
  have ew2_0 : (w2.cell? ⟨gx, 0, none⟩).isSome = true := by rw [xw2, f0]; rfl
  go_wp2
  go_ret
  exact ⟨rfl, H3⟩
set_option maxRecDepth 10000 in
set_option maxHeartbeats 4000000 in
theorem sll34n {B : Nat} {w0 w : World} {g gl cap gx : Nat} {c : Cfg} {a : Acc} {L : List Int} {s : Wk} (h : MX B w0 g gl cap gx c a L s w) (hm : L.length ≤ 1000) (hL : WR L) (hf : c.Wf) (hl : s.p.ln = 34) (hb : csB L (aSlab c s.p.j) s.p.v = false) : Calls Try.prog 78 #[.pointer (some ⟨g, 0, none⟩), .pointer (some ⟨gx, 0, none⟩)] w (LP B w0 g gl cap gx c ⟨acc L 3 (aSlab c s.p.j) s.p.v 1, csL L (aSlab c s.p.j) s.p.v 1, { s.p with ln := 33 }, 0, true⟩ s) := by
  have HC := Lib.hid (slChangeN h hm hL hf s.p.j 1 (by decide) hb)
  clear hb
  have HW := Lib.hid (show wrap64 (s.p.ln - 1) = 33 by rw [hl]; exact IntWalk.wrap64_in _ (by omega))
  have f0 : ∀ s : Wk, (wc s)[0]? = some (.int .i64 s.p.ln) := fun _ => rfl
  have f28 : ∀ s : Wk, (wc s)[28]? = some (.int .i64 s.p.j) := fun _ => rfl
  have t30 : (s.p.ln == 30) = false := by simp [hl]
  have t31 : (s.p.ln == 31) = false := by simp [hl]
  have t32 : (s.p.ln == 32) = false := by simp [hl]
  have t33 : (s.p.ln == 33) = false := by simp [hl]
  have t34 : (s.p.ln == 34) = true := by simp [hl]
  have x0 := h.X.cells
  clear hl
  go_enter Try.func78, Try.ntmps78
  go_wp2_with fail
  refine HC.out.mono ?_
  rintro en w1 ⟨rfl, H1⟩
  rw [HW.out] at H1
  go_wp2
  go_ret2
  exact ⟨rfl, H1⟩
set_option maxRecDepth 10000 in
set_option maxHeartbeats 4000000 in
theorem sll37n {B : Nat} {w0 w : World} {g gl cap gx : Nat} {c : Cfg} {a : Acc} {L : List Int} {s : Wk} (h : MX B w0 g gl cap gx c a L s w) (hm : L.length ≤ 1000) (hL : WR L) (hf : c.Wf) (hl : s.p.ln = 37) (hb : csB L (aSlab c s.p.o3) s.p.v = false) : Calls Try.prog 78 #[.pointer (some ⟨g, 0, none⟩), .pointer (some ⟨gx, 0, none⟩)] w (LP B w0 g gl cap gx c ⟨acc L 3 (aSlab c s.p.o3) s.p.v 2, csL L (aSlab c s.p.o3) s.p.v 2, { s.p with ln := 36 }, 0, true⟩ s) := by
  have HC := Lib.hid (slChangeN h hm hL hf s.p.o3 2 (by decide) hb)
  clear hb
  have HW := Lib.hid (show wrap64 (s.p.ln - 1) = 36 by rw [hl]; exact IntWalk.wrap64_in _ (by omega))
  have f0 : ∀ s : Wk, (wc s)[0]? = some (.int .i64 s.p.ln) := fun _ => rfl
  have f4 : ∀ s : Wk, (wc s)[4]? = some (.int .i64 s.p.o3) := fun _ => rfl
  have t30 : (s.p.ln == 30) = false := by simp [hl]
  have t31 : (s.p.ln == 31) = false := by simp [hl]
  have t32 : (s.p.ln == 32) = false := by simp [hl]
  have t33 : (s.p.ln == 33) = false := by simp [hl]
  have t34 : (s.p.ln == 34) = false := by simp [hl]
  have t35 : (s.p.ln == 35) = false := by simp [hl]
  have t36 : (s.p.ln == 36) = false := by simp [hl]
  have t37 : (s.p.ln == 37) = true := by simp [hl]
  have x0 := h.X.cells
  clear hl
  go_enter Try.func78, Try.ntmps78
  go_wp2_with fail
  refine HC.out.mono ?_
  rintro en w1 ⟨rfl, H1⟩
  rw [HW.out] at H1
  go_wp2
  go_ret2
  exact ⟨rfl, H1⟩
set_option maxRecDepth 10000 in
set_option maxHeartbeats 4000000 in
theorem slRefuseY {B : Nat} {w0 w : World} {g gl cap gx : Nat} {c : Cfg} {a : Acc} {L : List Int} {s : Wk} (h : MX B w0 g gl cap gx c a L s w) (hm : L.length ≤ 1000) (hL : WR L) (hf : c.Wf) (k : Int) (hs : ldV L (slHome c k) % 16 = 2) : Calls Try.prog 131 #[.pointer (some ⟨g, 0, none⟩), .int .i64 k] w fun e w' => e = .returned (.int .i64 2) ∧ MX B w0 g gl cap gx c (acc L 1 (slHome c k) 0 0) (L) s w' := by
  have HS := Lib.hid hs
  have hv := ldV_wr hL (slHome c k)
  have HHO := Lib.hid (slHomeC h.M hf k)
  clear hs
  go_enter Try.func131, Try.ntmps131
  go_wp2_with fail
  refine HHO.out.mono ?_
  rintro en w1 ⟨rfl, hb1⟩
  have H1 := h.keep hb1
  clear HHO hb1
  go_wp2_with fail
  refine (load_any H1.M hm _).mono ?_
  rintro en w2 ⟨rfl, M2, T2⟩
  have H2 := H1.mem M2 T2
  obtain ⟨v0, hv0⟩ : ∃ v, v = ldV L (slHome c k) := ⟨_, rfl⟩
  rw [← hv0] at HS hv
  simp only [← hv0]
  clear hv0 H1 M2 T2
  go_wp2_with fail
  refine (stateOf v0 hv.1 hv.2 _).mono ?_
  rintro en w3 ⟨rfl, hb3⟩
  have H3 := H2.keep hb3
  have te : (v0 % 16 == 2) = true := by have := HS.out; simp [this]
  clear hv
  go_wp2
  go_ret
  exact ⟨rfl, H3⟩
set_option maxRecDepth 10000 in
set_option maxHeartbeats 4000000 in
theorem sll35y {B : Nat} {w0 w : World} {g gl cap gx : Nat} {c : Cfg} {a : Acc} {L : List Int} {s : Wk} (h : MX B w0 g gl cap gx c a L s w) (hm : L.length ≤ 1000) (hL : WR L) (hf : c.Wf) (hl : s.p.ln = 35) (hs : ldV L (slHome c s.p.b) % 16 = 2) : Calls Try.prog 78 #[.pointer (some ⟨g, 0, none⟩), .pointer (some ⟨gx, 0, none⟩)] w (LP B w0 g gl cap gx c ⟨acc L 1 (slHome c s.p.b) 0 0, L, s.p, 2, true⟩ s) := by
  have HC := Lib.hid (slRefuseY h hm hL hf s.p.b hs)
  clear hs
  have f0 : ∀ s : Wk, (wc s)[0]? = some (.int .i64 s.p.ln) := fun _ => rfl
  have f18 : ∀ s : Wk, (wc s)[18]? = some (.int .i64 s.p.b) := fun _ => rfl
  have t30 : (s.p.ln == 30) = false := by simp [hl]
  have t31 : (s.p.ln == 31) = false := by simp [hl]
  have t32 : (s.p.ln == 32) = false := by simp [hl]
  have t33 : (s.p.ln == 33) = false := by simp [hl]
  have t34 : (s.p.ln == 34) = false := by simp [hl]
  have t35 : (s.p.ln == 35) = true := by simp [hl]
  have x0 := h.X.cells
  clear hl
  go_enter Try.func78, Try.ntmps78
  go_wp2_with fail
  refine HC.out.mono ?_
  rintro en w1 ⟨rfl, H1⟩
  go_wp2
  go_ret2
  exact ⟨rfl, H1⟩
set_option maxRecDepth 10000 in
set_option maxHeartbeats 4000000 in
theorem sll39y {B : Nat} {w0 w : World} {g gl cap gx : Nat} {c : Cfg} {a : Acc} {L : List Int} {s : Wk} (h : MX B w0 g gl cap gx c a L s w) (hm : L.length ≤ 1000) (hL : WR L) (hf : c.Wf) (hl : s.p.ln = 39) (hs : ldV L (slHome c s.p.k) % 16 = 2) : Calls Try.prog 78 #[.pointer (some ⟨g, 0, none⟩), .pointer (some ⟨gx, 0, none⟩)] w (LP B w0 g gl cap gx c ⟨acc L 1 (slHome c s.p.k) 0 0, L, s.p, 2, true⟩ s) := by
  have HC := Lib.hid (slRefuseY h hm hL hf s.p.k hs)
  clear hs
  have f0 : ∀ s : Wk, (wc s)[0]? = some (.int .i64 s.p.ln) := fun _ => rfl
  have f19 : ∀ s : Wk, (wc s)[19]? = some (.int .i64 s.p.k) := fun _ => rfl
  have t30 : (s.p.ln == 30) = false := by simp [hl]
  have t31 : (s.p.ln == 31) = false := by simp [hl]
  have t32 : (s.p.ln == 32) = false := by simp [hl]
  have t33 : (s.p.ln == 33) = false := by simp [hl]
  have t34 : (s.p.ln == 34) = false := by simp [hl]
  have t35 : (s.p.ln == 35) = false := by simp [hl]
  have t36 : (s.p.ln == 36) = false := by simp [hl]
  have t37 : (s.p.ln == 37) = false := by simp [hl]
  have t39 : (s.p.ln == 39) = true := by simp [hl]
  have x0 := h.X.cells
  clear hl
  go_enter Try.func78, Try.ntmps78
  go_wp2_with fail
  refine HC.out.mono ?_
  rintro en w1 ⟨rfl, H1⟩
  go_wp2
  go_ret2
  exact ⟨rfl, H1⟩
set_option maxRecDepth 10000 in
set_option maxHeartbeats 4000000 in
theorem slRefuseN {B : Nat} {w0 w : World} {g gl cap gx : Nat} {c : Cfg} {a : Acc} {L : List Int} {s : Wk} (h : MX B w0 g gl cap gx c a L s w) (hm : L.length ≤ 1000) (hL : WR L) (hf : c.Wf) (k : Int) (hs : ldV L (slHome c k) % 16 ≠ 2) : Calls Try.prog 131 #[.pointer (some ⟨g, 0, none⟩), .int .i64 k] w fun e w' => e = .returned (.int .i64 1) ∧ MX B w0 g gl cap gx c (acc L 1 (slHome c k) 0 0) (L) s w' := by
  have HS := Lib.hid hs
  have hv := ldV_wr hL (slHome c k)
  have HHO := Lib.hid (slHomeC h.M hf k)
  clear hs
  go_enter Try.func131, Try.ntmps131
  go_wp2_with fail
  refine HHO.out.mono ?_
  rintro en w1 ⟨rfl, hb1⟩
  have H1 := h.keep hb1
  clear HHO hb1
  go_wp2_with fail
  refine (load_any H1.M hm _).mono ?_
  rintro en w2 ⟨rfl, M2, T2⟩
  have H2 := H1.mem M2 T2
  obtain ⟨v0, hv0⟩ : ∃ v, v = ldV L (slHome c k) := ⟨_, rfl⟩
  rw [← hv0] at HS hv
  simp only [← hv0]
  clear hv0 H1 M2 T2
  go_wp2_with fail
  refine (stateOf v0 hv.1 hv.2 _).mono ?_
  rintro en w3 ⟨rfl, hb3⟩
  have H3 := H2.keep hb3
  have te : (v0 % 16 == 2) = false := by have := HS.out; simp [this]
  clear hv
  go_wp2
  go_ret
  exact ⟨rfl, H3⟩
set_option maxRecDepth 10000 in
set_option maxHeartbeats 4000000 in
theorem sll35n {B : Nat} {w0 w : World} {g gl cap gx : Nat} {c : Cfg} {a : Acc} {L : List Int} {s : Wk} (h : MX B w0 g gl cap gx c a L s w) (hm : L.length ≤ 1000) (hL : WR L) (hf : c.Wf) (hl : s.p.ln = 35) (hs : ldV L (slHome c s.p.b) % 16 ≠ 2) : Calls Try.prog 78 #[.pointer (some ⟨g, 0, none⟩), .pointer (some ⟨gx, 0, none⟩)] w (LP B w0 g gl cap gx c ⟨acc L 1 (slHome c s.p.b) 0 0, L, s.p, 1, true⟩ s) := by
  have HC := Lib.hid (slRefuseN h hm hL hf s.p.b hs)
  clear hs
  have f0 : ∀ s : Wk, (wc s)[0]? = some (.int .i64 s.p.ln) := fun _ => rfl
  have f18 : ∀ s : Wk, (wc s)[18]? = some (.int .i64 s.p.b) := fun _ => rfl
  have t30 : (s.p.ln == 30) = false := by simp [hl]
  have t31 : (s.p.ln == 31) = false := by simp [hl]
  have t32 : (s.p.ln == 32) = false := by simp [hl]
  have t33 : (s.p.ln == 33) = false := by simp [hl]
  have t34 : (s.p.ln == 34) = false := by simp [hl]
  have t35 : (s.p.ln == 35) = true := by simp [hl]
  have x0 := h.X.cells
  clear hl
  go_enter Try.func78, Try.ntmps78
  go_wp2_with fail
  refine HC.out.mono ?_
  rintro en w1 ⟨rfl, H1⟩
  go_wp2
  go_ret2
  exact ⟨rfl, H1⟩
set_option maxRecDepth 10000 in
set_option maxHeartbeats 4000000 in
theorem sll39n {B : Nat} {w0 w : World} {g gl cap gx : Nat} {c : Cfg} {a : Acc} {L : List Int} {s : Wk} (h : MX B w0 g gl cap gx c a L s w) (hm : L.length ≤ 1000) (hL : WR L) (hf : c.Wf) (hl : s.p.ln = 39) (hs : ldV L (slHome c s.p.k) % 16 ≠ 2) : Calls Try.prog 78 #[.pointer (some ⟨g, 0, none⟩), .pointer (some ⟨gx, 0, none⟩)] w (LP B w0 g gl cap gx c ⟨acc L 1 (slHome c s.p.k) 0 0, L, s.p, 1, true⟩ s) := by
  have HC := Lib.hid (slRefuseN h hm hL hf s.p.k hs)
  clear hs
  have f0 : ∀ s : Wk, (wc s)[0]? = some (.int .i64 s.p.ln) := fun _ => rfl
  have f19 : ∀ s : Wk, (wc s)[19]? = some (.int .i64 s.p.k) := fun _ => rfl
  have t30 : (s.p.ln == 30) = false := by simp [hl]
  have t31 : (s.p.ln == 31) = false := by simp [hl]
  have t32 : (s.p.ln == 32) = false := by simp [hl]
  have t33 : (s.p.ln == 33) = false := by simp [hl]
  have t34 : (s.p.ln == 34) = false := by simp [hl]
  have t35 : (s.p.ln == 35) = false := by simp [hl]
  have t36 : (s.p.ln == 36) = false := by simp [hl]
  have t37 : (s.p.ln == 37) = false := by simp [hl]
  have t39 : (s.p.ln == 39) = true := by simp [hl]
  have x0 := h.X.cells
  clear hl
  go_enter Try.func78, Try.ntmps78
  go_wp2_with fail
  refine HC.out.mono ?_
  rintro en w1 ⟨rfl, H1⟩
  go_wp2
  go_ret2
  exact ⟨rfl, H1⟩
set_option maxRecDepth 10000 in
set_option maxHeartbeats 4000000 in
theorem sll36y {B : Nat} {w0 w : World} {g gl cap gx : Nat} {c : Cfg} {a : Acc} {L : List Int} {s : Wk} (h : MX B w0 g gl cap gx c a L s w) (hm : L.length ≤ 1000) (hL : WR L) (hf : c.Wf) (hl : s.p.ln = 36) (hr : ldV L (aSlab c s.p.o3) % 16 = 1) : Calls Try.prog 78 #[.pointer (some ⟨g, 0, none⟩), .pointer (some ⟨gx, 0, none⟩)] w (LP B w0 g gl cap gx c ⟨acc L 1 (aSlab c s.p.o3) 0 0, L, { s.p with v := ldV L (aSlab c s.p.o3), ln := 37 }, 0, true⟩ s) := by
  have hv := ldV_wr hL (aSlab c s.p.o3)
  have HR := Lib.hid hr
  have HAN := Lib.hid (fun w => Pl.slab c hf s.p.o3 w)
  clear hr
  have f0 : ∀ s : Wk, (wc s)[0]? = some (.int .i64 s.p.ln) := fun _ => rfl
  have f1 : ∀ s : Wk, (wc s)[1]? = some (.int .i64 s.p.o0) := fun _ => rfl
  have f4 : ∀ s : Wk, (wc s)[4]? = some (.int .i64 s.p.o3) := fun _ => rfl
  have f25 : ∀ s : Wk, (wc s)[25]? = some (.int .u64 s.p.v) := fun _ => rfl
  have t30 : (s.p.ln == 30) = false := by simp [hl]
  have t31 : (s.p.ln == 31) = false := by simp [hl]
  have t32 : (s.p.ln == 32) = false := by simp [hl]
  have t33 : (s.p.ln == 33) = false := by simp [hl]
  have t34 : (s.p.ln == 34) = false := by simp [hl]
  have t35 : (s.p.ln == 35) = false := by simp [hl]
  have t36 : (s.p.ln == 36) = true := by simp [hl]
  have x0 := h.X.cells
  clear hl
  go_enter Try.func78, Try.ntmps78
  go_wp2
  have hS0 : ∃ a' v', MX B w0 g gl cap gx c a' L { s with p := { s.p with v := v' } } w.drew := ⟨a, s.p.v, h.keep (Below.drew (Below.refl _ _))⟩
  refine wp_region_held_drew (S := fun w' => ∃ a' v', MX B w0 g gl cap gx c a' L { s with p := { s.p with v := v' } } w') (by kernel_rfl) hS0 (fun hHeld => ?_)
  clear h hS0 x0
  generalize w.drew = vv at *
  refine wpAnyH_take (i := 0) (oi := _) (v := .pointer (some ⟨gx, 0, none⟩)) rfl (by kernel_rfl) (by kernel_rfl) (by kernel_rfl) (fun _ _ _ h => h) (Or.inl ⟨by rfl, fun w' hSw => by go_simp⟩) hHeld ?_
  try simp only [Act.put, List.getElem_toArray, List.getElem_cons_succ, List.getElem_cons_zero, List.setIfInBounds_toArray, List.set_cons_succ, List.set_cons_zero]
  refine wpAnyH_take (i := 1) (oi := _) (v := .pointer (some ⟨g, 0, none⟩)) rfl (by kernel_rfl) (by kernel_rfl) (by kernel_rfl) (fun _ _ _ h => h) (Or.inl ⟨by rfl, fun w' hSw => by go_simp⟩) hHeld ?_
  try simp only [Act.put, List.getElem_toArray, List.getElem_cons_succ, List.getElem_cons_zero, List.setIfInBounds_toArray, List.set_cons_succ, List.set_cons_zero]
  refine wpAnyH_take (i := 2) (oi := _) (v := .pointer (some ⟨g, 0, none⟩)) rfl (by kernel_rfl) (by kernel_rfl) (by kernel_rfl) (fun _ _ _ h => h) (Or.inl ⟨by rfl, fun w' hSw => by go_simp⟩) hHeld ?_
  try simp only [Act.put, List.getElem_toArray, List.getElem_cons_succ, List.getElem_cons_zero, List.setIfInBounds_toArray, List.set_cons_succ, List.set_cons_zero]
  refine wpAnyH_take (i := 3) (oi := _) (v := .pointer (some ⟨g, 0, none⟩)) rfl (by kernel_rfl) (by kernel_rfl) (by kernel_rfl) (fun _ _ _ h => h) (Or.inl ⟨by rfl, fun w' hSw => by go_simp⟩) hHeld ?_
  try simp only [Act.put, List.getElem_toArray, List.getElem_cons_succ, List.getElem_cons_zero, List.setIfInBounds_toArray, List.set_cons_succ, List.set_cons_zero]
  refine wpAnyH_take (i := 4) (oi := _) (v := .pointer (some ⟨g, 0, none⟩)) rfl (by kernel_rfl) (by kernel_rfl) (by kernel_rfl) (fun _ _ _ h => h) (Or.inl ⟨by rfl, fun w' hSw => by go_simp⟩) hHeld ?_
  try simp only [Act.put, List.getElem_toArray, List.getElem_cons_succ, List.getElem_cons_zero, List.setIfInBounds_toArray, List.set_cons_succ, List.set_cons_zero]
  refine wpAnyH_take (i := 5) (oi := _) (v := cv c) rfl (by kernel_rfl) (by kernel_rfl) (by kernel_rfl) (fun _ _ _ h => h) (Or.inl ⟨by rfl, fun w' hSw => by obtain ⟨a', v', HS⟩ := hSw; have xx := HS.M.B.cells; go_simp⟩) hHeld ?_
  try simp only [Act.put, List.getElem_toArray, List.getElem_cons_succ, List.getElem_cons_zero, List.setIfInBounds_toArray, List.set_cons_succ, List.set_cons_zero]
  refine wpAnyH_take (i := 6) (oi := _) (v := .pointer (some ⟨gx, 0, none⟩)) rfl (by kernel_rfl) (by kernel_rfl) (by kernel_rfl) (fun _ _ _ h => h) (Or.inl ⟨by rfl, fun w' hSw => by go_simp⟩) hHeld ?_
  try simp only [Act.put, List.getElem_toArray, List.getElem_cons_succ, List.getElem_cons_zero, List.setIfInBounds_toArray, List.set_cons_succ, List.set_cons_zero]
  refine wpAnyH_take (i := 7) (oi := _) (v := .pointer (some ⟨gx, 0, none⟩)) rfl (by kernel_rfl) (by kernel_rfl) (by kernel_rfl) (fun _ _ _ h => h) (Or.inl ⟨by rfl, fun w' hSw => by go_simp⟩) hHeld ?_
  try simp only [Act.put, List.getElem_toArray, List.getElem_cons_succ, List.getElem_cons_zero, List.setIfInBounds_toArray, List.set_cons_succ, List.set_cons_zero]
  refine wpAnyH_take (i := 8) (oi := _) (v := .pointer (some ⟨gx, 1, none⟩)) rfl (by kernel_rfl) (by kernel_rfl) (by kernel_rfl) (fun _ _ _ h => h) (Or.inl ⟨by rfl, fun w' hSw => by go_simp⟩) hHeld ?_
  try simp only [Act.put, List.getElem_toArray, List.getElem_cons_succ, List.getElem_cons_zero, List.setIfInBounds_toArray, List.set_cons_succ, List.set_cons_zero]
  refine wpAnyH_take (i := 9) (oi := _) (v := .pointer (some ⟨gx, 4, none⟩)) rfl (by kernel_rfl) (by kernel_rfl) (by kernel_rfl) (fun _ _ _ h => h) (Or.inl ⟨by rfl, fun w' hSw => by go_simp⟩) hHeld ?_
  try simp only [Act.put, List.getElem_toArray, List.getElem_cons_succ, List.getElem_cons_zero, List.setIfInBounds_toArray, List.set_cons_succ, List.set_cons_zero]
  refine wpAnyH_take (i := 10) (oi := _) (v := .int .i64 s.p.o3) rfl (by kernel_rfl) (by kernel_rfl) (by kernel_rfl) (fun _ _ _ h => h) (Or.inl ⟨by rfl, fun w' hSw => by obtain ⟨a', v', HS⟩ := hSw; have xx := HS.X.cells; go_simp⟩) hHeld ?_
  try simp only [Act.put, List.getElem_toArray, List.getElem_cons_succ, List.getElem_cons_zero, List.setIfInBounds_toArray, List.set_cons_succ, List.set_cons_zero]
  refine wpAnyH_ready (rs := [11]) (by kernel_rfl) (by simp) ?_
  refine AllReadyH.cons (o := _) rfl (fun K hK => ?_) AllReadyH.nil
  go_simp
  refine (HAN.out _).mono ?_
  rintro en z1 ⟨rfl, hb⟩
  obtain ⟨a1, v1, H1⟩ := hHeld
  refine hK.out _ _ ⟨a1, v1, H1.keep hb⟩ (fun hHeld => ?_)
  clear hK K H1 hb
  try simp only [Act.put, List.getElem_toArray, List.getElem_cons_succ, List.getElem_cons_zero, List.setIfInBounds_toArray, List.set_cons_succ, List.set_cons_zero]
  refine wpAnyH_ready (rs := [12]) (by kernel_rfl) (by simp) ?_
  refine AllReadyH.cons (o := _) rfl (fun K hK => ?_) AllReadyH.nil
  go_simp
  obtain ⟨a1, v1, H1⟩ := hHeld
  refine (load_any H1.M hm _).mono ?_
  rintro en z2 ⟨rfl, M2, T2⟩
  have H2 := H1.mem M2 T2
  refine hK.out _ _ ⟨_, v1, H2⟩ (fun hHeld => ?_)
  clear hK K H1 M2 T2
  obtain ⟨lj, hlj⟩ : ∃ v, v = ldV L (aSlab c s.p.o3) := ⟨_, rfl⟩
  simp only [← hlj]
  rw [← hlj] at hv HR
  have HV := Lib.hid hlj
  clear hlj
  try simp only [Act.put, List.getElem_toArray, List.getElem_cons_succ, List.getElem_cons_zero, List.setIfInBounds_toArray, List.set_cons_succ, List.set_cons_zero]
  refine wpAnyH_take (i := 13) (oi := _) (v := .pointer (some ⟨gx, 0, none⟩)) rfl (by kernel_rfl) (by kernel_rfl) (by kernel_rfl) (fun _ _ _ h => h) (Or.inl ⟨by rfl, fun w' hSw => by go_simp⟩) hHeld ?_
  try simp only [Act.put, List.getElem_toArray, List.getElem_cons_succ, List.getElem_cons_zero, List.setIfInBounds_toArray, List.set_cons_succ, List.set_cons_zero]
  refine wpAnyH_take (i := 14) (oi := _) (v := .pointer (some ⟨gx, 25, none⟩)) rfl (by kernel_rfl) (by kernel_rfl) (by kernel_rfl) (fun _ _ _ h => h) (Or.inl ⟨by rfl, fun w' hSw => by go_simp⟩) hHeld ?_
  try simp only [Act.put, List.getElem_toArray, List.getElem_cons_succ, List.getElem_cons_zero, List.setIfInBounds_toArray, List.set_cons_succ, List.set_cons_zero]
  refine wpAnyH_ready (rs := [15]) (by kernel_rfl) (by simp) ?_
  refine AllReadyH.cons (o := _) rfl (fun K hK => ?_) AllReadyH.nil
  have x2 := H2.X.cells
  have z2f := H2.X.frozen
  have e25 : (z2.cell? ⟨gx, 25, none⟩).isSome = true := by rw [x2, f25]; rfl
  have H3 := H2.set (s' := { s with p := { s.p with v := lj } }) 25 (.int .u64 lj) rfl
  go_simp
  refine hK.out _ _ ⟨_, lj, H3⟩ (fun hHeld => ?_)
  clear hK K H2 x2 z2f e25
  try simp only [Act.put, List.getElem_toArray, List.getElem_cons_succ, List.getElem_cons_zero, List.setIfInBounds_toArray, List.set_cons_succ, List.set_cons_zero]
  refine wpAnyH_done (by kernel_rfl) ?_ _
  clear hHeld
  obtain ⟨z3, hz3⟩ : ∃ u, u = z2.setCell ⟨gx, 25, none⟩ (.int .u64 lj) := ⟨_, rfl⟩
  rw [← hz3] at H3 ⊢
  clear hz3
  have x3 := H3.X.cells
  have l3 := H3.lt
  go_wp2_with fail
  refine (stateOf lj hv.1 hv.2 _).mono ?_
  rintro en w5 ⟨rfl, hb5⟩
  have H5 := H3.keep hb5
  have te : (lj % 16 != 1) = false := by have := HR.out; simp [this]
  clear x3 l3 H3 hb5 hv
  have H6 := H5.set (s' := { s with p := { s.p with v := lj, ln := 37 } }) 0 (.int .i64 37) rfl
  have xw5 := H5.X.cells
  have zw5 := H5.X.frozen
  have ew5_0 : (w5.cell? ⟨gx, 0, none⟩).isSome = true := by rw [xw5, f0]; rfl
  go_wp2
  go_ret2
  have e1 := HV.out
  subst e1
  exact ⟨rfl, H6⟩
set_option maxRecDepth 10000 in
set_option maxHeartbeats 4000000 in
theorem sll36n {B : Nat} {w0 w : World} {g gl cap gx : Nat} {c : Cfg} {a : Acc} {L : List Int} {s : Wk} (h : MX B w0 g gl cap gx c a L s w) (hm : L.length ≤ 1000) (hL : WR L) (hf : c.Wf) (hl : s.p.ln = 36) (hr : ldV L (aSlab c s.p.o3) % 16 ≠ 1) : Calls Try.prog 78 #[.pointer (some ⟨g, 0, none⟩), .pointer (some ⟨gx, 0, none⟩)] w (LP B w0 g gl cap gx c ⟨acc L 1 (aSlab c s.p.o3) 0 0, L, { s.p with v := ldV L (aSlab c s.p.o3) }, 2, true⟩ s) := by
  have hv := ldV_wr hL (aSlab c s.p.o3)
  have HR := Lib.hid hr
  have HAN := Lib.hid (fun w => Pl.slab c hf s.p.o3 w)
  clear hr
  have f0 : ∀ s : Wk, (wc s)[0]? = some (.int .i64 s.p.ln) := fun _ => rfl
  have f1 : ∀ s : Wk, (wc s)[1]? = some (.int .i64 s.p.o0) := fun _ => rfl
  have f4 : ∀ s : Wk, (wc s)[4]? = some (.int .i64 s.p.o3) := fun _ => rfl
  have f25 : ∀ s : Wk, (wc s)[25]? = some (.int .u64 s.p.v) := fun _ => rfl
  have t30 : (s.p.ln == 30) = false := by simp [hl]
  have t31 : (s.p.ln == 31) = false := by simp [hl]
  have t32 : (s.p.ln == 32) = false := by simp [hl]
  have t33 : (s.p.ln == 33) = false := by simp [hl]
  have t34 : (s.p.ln == 34) = false := by simp [hl]
  have t35 : (s.p.ln == 35) = false := by simp [hl]
  have t36 : (s.p.ln == 36) = true := by simp [hl]
  have x0 := h.X.cells
  clear hl
  go_enter Try.func78, Try.ntmps78
  go_wp2
  have hS0 : ∃ a' v', MX B w0 g gl cap gx c a' L { s with p := { s.p with v := v' } } w.drew := ⟨a, s.p.v, h.keep (Below.drew (Below.refl _ _))⟩
  refine wp_region_held_drew (S := fun w' => ∃ a' v', MX B w0 g gl cap gx c a' L { s with p := { s.p with v := v' } } w') (by kernel_rfl) hS0 (fun hHeld => ?_)
  clear h hS0 x0
  generalize w.drew = vv at *
  refine wpAnyH_take (i := 0) (oi := _) (v := .pointer (some ⟨gx, 0, none⟩)) rfl (by kernel_rfl) (by kernel_rfl) (by kernel_rfl) (fun _ _ _ h => h) (Or.inl ⟨by rfl, fun w' hSw => by go_simp⟩) hHeld ?_
  try simp only [Act.put, List.getElem_toArray, List.getElem_cons_succ, List.getElem_cons_zero, List.setIfInBounds_toArray, List.set_cons_succ, List.set_cons_zero]
  refine wpAnyH_take (i := 1) (oi := _) (v := .pointer (some ⟨g, 0, none⟩)) rfl (by kernel_rfl) (by kernel_rfl) (by kernel_rfl) (fun _ _ _ h => h) (Or.inl ⟨by rfl, fun w' hSw => by go_simp⟩) hHeld ?_
  try simp only [Act.put, List.getElem_toArray, List.getElem_cons_succ, List.getElem_cons_zero, List.setIfInBounds_toArray, List.set_cons_succ, List.set_cons_zero]
  refine wpAnyH_take (i := 2) (oi := _) (v := .pointer (some ⟨g, 0, none⟩)) rfl (by kernel_rfl) (by kernel_rfl) (by kernel_rfl) (fun _ _ _ h => h) (Or.inl ⟨by rfl, fun w' hSw => by go_simp⟩) hHeld ?_
  try simp only [Act.put, List.getElem_toArray, List.getElem_cons_succ, List.getElem_cons_zero, List.setIfInBounds_toArray, List.set_cons_succ, List.set_cons_zero]
  refine wpAnyH_take (i := 3) (oi := _) (v := .pointer (some ⟨g, 0, none⟩)) rfl (by kernel_rfl) (by kernel_rfl) (by kernel_rfl) (fun _ _ _ h => h) (Or.inl ⟨by rfl, fun w' hSw => by go_simp⟩) hHeld ?_
  try simp only [Act.put, List.getElem_toArray, List.getElem_cons_succ, List.getElem_cons_zero, List.setIfInBounds_toArray, List.set_cons_succ, List.set_cons_zero]
  refine wpAnyH_take (i := 4) (oi := _) (v := .pointer (some ⟨g, 0, none⟩)) rfl (by kernel_rfl) (by kernel_rfl) (by kernel_rfl) (fun _ _ _ h => h) (Or.inl ⟨by rfl, fun w' hSw => by go_simp⟩) hHeld ?_
  try simp only [Act.put, List.getElem_toArray, List.getElem_cons_succ, List.getElem_cons_zero, List.setIfInBounds_toArray, List.set_cons_succ, List.set_cons_zero]
  refine wpAnyH_take (i := 5) (oi := _) (v := cv c) rfl (by kernel_rfl) (by kernel_rfl) (by kernel_rfl) (fun _ _ _ h => h) (Or.inl ⟨by rfl, fun w' hSw => by obtain ⟨a', v', HS⟩ := hSw; have xx := HS.M.B.cells; go_simp⟩) hHeld ?_
  try simp only [Act.put, List.getElem_toArray, List.getElem_cons_succ, List.getElem_cons_zero, List.setIfInBounds_toArray, List.set_cons_succ, List.set_cons_zero]
  refine wpAnyH_take (i := 6) (oi := _) (v := .pointer (some ⟨gx, 0, none⟩)) rfl (by kernel_rfl) (by kernel_rfl) (by kernel_rfl) (fun _ _ _ h => h) (Or.inl ⟨by rfl, fun w' hSw => by go_simp⟩) hHeld ?_
  try simp only [Act.put, List.getElem_toArray, List.getElem_cons_succ, List.getElem_cons_zero, List.setIfInBounds_toArray, List.set_cons_succ, List.set_cons_zero]
  refine wpAnyH_take (i := 7) (oi := _) (v := .pointer (some ⟨gx, 0, none⟩)) rfl (by kernel_rfl) (by kernel_rfl) (by kernel_rfl) (fun _ _ _ h => h) (Or.inl ⟨by rfl, fun w' hSw => by go_simp⟩) hHeld ?_
  try simp only [Act.put, List.getElem_toArray, List.getElem_cons_succ, List.getElem_cons_zero, List.setIfInBounds_toArray, List.set_cons_succ, List.set_cons_zero]
  refine wpAnyH_take (i := 8) (oi := _) (v := .pointer (some ⟨gx, 1, none⟩)) rfl (by kernel_rfl) (by kernel_rfl) (by kernel_rfl) (fun _ _ _ h => h) (Or.inl ⟨by rfl, fun w' hSw => by go_simp⟩) hHeld ?_
  try simp only [Act.put, List.getElem_toArray, List.getElem_cons_succ, List.getElem_cons_zero, List.setIfInBounds_toArray, List.set_cons_succ, List.set_cons_zero]
  refine wpAnyH_take (i := 9) (oi := _) (v := .pointer (some ⟨gx, 4, none⟩)) rfl (by kernel_rfl) (by kernel_rfl) (by kernel_rfl) (fun _ _ _ h => h) (Or.inl ⟨by rfl, fun w' hSw => by go_simp⟩) hHeld ?_
  try simp only [Act.put, List.getElem_toArray, List.getElem_cons_succ, List.getElem_cons_zero, List.setIfInBounds_toArray, List.set_cons_succ, List.set_cons_zero]
  refine wpAnyH_take (i := 10) (oi := _) (v := .int .i64 s.p.o3) rfl (by kernel_rfl) (by kernel_rfl) (by kernel_rfl) (fun _ _ _ h => h) (Or.inl ⟨by rfl, fun w' hSw => by obtain ⟨a', v', HS⟩ := hSw; have xx := HS.X.cells; go_simp⟩) hHeld ?_
  try simp only [Act.put, List.getElem_toArray, List.getElem_cons_succ, List.getElem_cons_zero, List.setIfInBounds_toArray, List.set_cons_succ, List.set_cons_zero]
  refine wpAnyH_ready (rs := [11]) (by kernel_rfl) (by simp) ?_
  refine AllReadyH.cons (o := _) rfl (fun K hK => ?_) AllReadyH.nil
  go_simp
  refine (HAN.out _).mono ?_
  rintro en z1 ⟨rfl, hb⟩
  obtain ⟨a1, v1, H1⟩ := hHeld
  refine hK.out _ _ ⟨a1, v1, H1.keep hb⟩ (fun hHeld => ?_)
  clear hK K H1 hb
  try simp only [Act.put, List.getElem_toArray, List.getElem_cons_succ, List.getElem_cons_zero, List.setIfInBounds_toArray, List.set_cons_succ, List.set_cons_zero]
  refine wpAnyH_ready (rs := [12]) (by kernel_rfl) (by simp) ?_
  refine AllReadyH.cons (o := _) rfl (fun K hK => ?_) AllReadyH.nil
  go_simp
  obtain ⟨a1, v1, H1⟩ := hHeld
  refine (load_any H1.M hm _).mono ?_
  rintro en z2 ⟨rfl, M2, T2⟩
  have H2 := H1.mem M2 T2
  refine hK.out _ _ ⟨_, v1, H2⟩ (fun hHeld => ?_)
  clear hK K H1 M2 T2
  obtain ⟨lj, hlj⟩ : ∃ v, v = ldV L (aSlab c s.p.o3) := ⟨_, rfl⟩
  simp only [← hlj]
  rw [← hlj] at hv HR
  have HV := Lib.hid hlj
  clear hlj
  try simp only [Act.put, List.getElem_toArray, List.getElem_cons_succ, List.getElem_cons_zero, List.setIfInBounds_toArray, List.set_cons_succ, List.set_cons_zero]
  refine wpAnyH_take (i := 13) (oi := _) (v := .pointer (some ⟨gx, 0, none⟩)) rfl (by kernel_rfl) (by kernel_rfl) (by kernel_rfl) (fun _ _ _ h => h) (Or.inl ⟨by rfl, fun w' hSw => by go_simp⟩) hHeld ?_
  try simp only [Act.put, List.getElem_toArray, List.getElem_cons_succ, List.getElem_cons_zero, List.setIfInBounds_toArray, List.set_cons_succ, List.set_cons_zero]
  refine wpAnyH_take (i := 14) (oi := _) (v := .pointer (some ⟨gx, 25, none⟩)) rfl (by kernel_rfl) (by kernel_rfl) (by kernel_rfl) (fun _ _ _ h => h) (Or.inl ⟨by rfl, fun w' hSw => by go_simp⟩) hHeld ?_
  try simp only [Act.put, List.getElem_toArray, List.getElem_cons_succ, List.getElem_cons_zero, List.setIfInBounds_toArray, List.set_cons_succ, List.set_cons_zero]
  refine wpAnyH_ready (rs := [15]) (by kernel_rfl) (by simp) ?_
  refine AllReadyH.cons (o := _) rfl (fun K hK => ?_) AllReadyH.nil
  have x2 := H2.X.cells
  have z2f := H2.X.frozen
  have e25 : (z2.cell? ⟨gx, 25, none⟩).isSome = true := by rw [x2, f25]; rfl
  have H3 := H2.set (s' := { s with p := { s.p with v := lj } }) 25 (.int .u64 lj) rfl
  go_simp
  refine hK.out _ _ ⟨_, lj, H3⟩ (fun hHeld => ?_)
  clear hK K H2 x2 z2f e25
  try simp only [Act.put, List.getElem_toArray, List.getElem_cons_succ, List.getElem_cons_zero, List.setIfInBounds_toArray, List.set_cons_succ, List.set_cons_zero]
  refine wpAnyH_done (by kernel_rfl) ?_ _
  clear hHeld
  obtain ⟨z3, hz3⟩ : ∃ u, u = z2.setCell ⟨gx, 25, none⟩ (.int .u64 lj) := ⟨_, rfl⟩
  rw [← hz3] at H3 ⊢
  clear hz3
  have x3 := H3.X.cells
  have l3 := H3.lt
  go_wp2_with fail
  refine (stateOf lj hv.1 hv.2 _).mono ?_
  rintro en w5 ⟨rfl, hb5⟩
  have H5 := H3.keep hb5
  have te : (lj % 16 != 1) = true := by have := HR.out; simp [this]
  clear x3 l3 H3 hb5 hv
  go_wp2
  go_ret2
  have e1 := HV.out
  subst e1
  exact ⟨rfl, H5⟩
set_option maxRecDepth 10000 in
set_option maxHeartbeats 4000000 in
theorem sllNone {B : Nat} {w0 w : World} {g gl cap gx : Nat} {c : Cfg} {a : Acc} {L : List Int} {s : Wk} (h : MX B w0 g gl cap gx c a L s w) (hm : L.length ≤ 1000) (hL : WR L) (hf : c.Wf) (hl : s.p.ln ≠ 30 ∧ s.p.ln ≠ 31 ∧ s.p.ln ≠ 32 ∧ s.p.ln ≠ 33 ∧ s.p.ln ≠ 34 ∧ s.p.ln ≠ 35 ∧ s.p.ln ≠ 36 ∧ s.p.ln ≠ 37 ∧ s.p.ln ≠ 39) : Calls Try.prog 78 #[.pointer (some ⟨g, 0, none⟩), .pointer (some ⟨gx, 0, none⟩)] w (LP B w0 g gl cap gx c ⟨a, L, s.p, 0, false⟩ s) := by
  have f0 : ∀ s : Wk, (wc s)[0]? = some (.int .i64 s.p.ln) := fun _ => rfl
  have t30 : (s.p.ln == 30) = false := by simp; omega
  have t31 : (s.p.ln == 31) = false := by simp; omega
  have t32 : (s.p.ln == 32) = false := by simp; omega
  have t33 : (s.p.ln == 33) = false := by simp; omega
  have t34 : (s.p.ln == 34) = false := by simp; omega
  have t35 : (s.p.ln == 35) = false := by simp; omega
  have t36 : (s.p.ln == 36) = false := by simp; omega
  have t37 : (s.p.ln == 37) = false := by simp; omega
  have t39 : (s.p.ln == 39) = false := by simp; omega
  have x0 := h.X.cells
  clear hl
  go_enter Try.func78, Try.ntmps78
  go_wp2
  go_ret2
  exact ⟨rfl, h⟩
/-- A line, whichever. -/
theorem slabLine {B : Nat} {w0 w : World} {g gl cap gx : Nat} {c : Cfg} {a : Acc} {L : List Int} {s : Wk} (h : MX B w0 g gl cap gx c a L s w) (hm : L.length ≤ 1000) (hL : WR L) (hf : c.Wf) (he : s.p.ep < 18446744073709551616) : Calls Try.prog 78 #[.pointer (some ⟨g, 0, none⟩), .pointer (some ⟨gx, 0, none⟩)] w (LP B w0 g gl cap gx c (slabLn c a L s.p) s) := by
  unfold slabLn
  by_cases h30 : s.p.ln = 30
  · rw [if_pos h30]
    unfold sl30
    split
    · rename_i hq; exact sll30y h hm hL hf h30 hq
    · rename_i hq; exact sll30n h hm hL hf h30 hq
  rw [if_neg h30]
  by_cases h31 : s.p.ln = 31
  · rw [if_pos h31]
    exact sll31 h hm hL hf h31
  rw [if_neg h31]
  by_cases h32 : s.p.ln = 32
  · rw [if_pos h32]
    exact sll32 h hm hL hf h32
  rw [if_neg h32]
  by_cases h33 : s.p.ln = 33
  · rw [if_pos h33]
    unfold sl33
    cases hr : rdyB (ldV L (aSlab c s.p.j)) s.p.ep with
    | true => rw [if_pos rfl]; exact sll33r h hm hL hf he h33 hr
    | false =>
      rw [if_neg (by simp)]
      by_cases hj : c.sl ≤ wrap64 (s.p.j + 1)
      · rw [if_pos hj]; exact sll33g h hm hL hf he h33 hr hj
      · rw [if_neg hj]; exact sll33n h hm hL hf he h33 hr hj
  rw [if_neg h33]
  by_cases h34 : s.p.ln = 34
  · rw [if_pos h34]
    unfold slSwap
    cases hb : csB L (aSlab c s.p.j) s.p.v with
    | true => rw [if_pos rfl]; exact sll34y h hm hL hf h34 hb
    | false => rw [if_neg (by simp)]; exact sll34n h hm hL hf h34 hb
  rw [if_neg h34]
  by_cases h35 : s.p.ln = 35
  · rw [if_pos h35]
    unfold slTake
    by_cases hs : ldV L (slHome c s.p.b) % 16 = 2
    · rw [if_pos hs]; exact sll35y h hm hL hf h35 hs
    · rw [if_neg hs]; exact sll35n h hm hL hf h35 hs
  rw [if_neg h35]
  by_cases h36 : s.p.ln = 36
  · rw [if_pos h36]
    unfold sl36
    split
    · rename_i hq; exact sll36y h hm hL hf h36 hq
    · rename_i hq; exact sll36n h hm hL hf h36 hq
  rw [if_neg h36]
  by_cases h37 : s.p.ln = 37
  · rw [if_pos h37]
    unfold slSwap
    cases hb : csB L (aSlab c s.p.o3) s.p.v with
    | true => rw [if_pos rfl]; exact sll37y h hm hL hf h37 hb
    | false => rw [if_neg (by simp)]; exact sll37n h hm hL hf h37 hb
  rw [if_neg h37]
  by_cases h39 : s.p.ln = 39
  · rw [if_pos h39]
    unfold slTake
    by_cases hs : ldV L (slHome c s.p.k) % 16 = 2
    · rw [if_pos hs]; exact sll39y h hm hL hf h39 hs
    · rw [if_neg hs]; exact sll39n h hm hL hf h39 hs
  rw [if_neg h39]
  exact sllNone h hm hL hf ⟨h30, h31, h32, h33, h34, h35, h36, h37, h39⟩
theorem slabStepAny {B : Nat} {w : World} {g gl cap : Nat} {c : Cfg} {a : Acc} {L : List Int} (M : MemAt B w g c a gl cap L) (hf : c.Wf) (hm : L.length ≤ 1000) (hL : WR L) (s : Wk) (x : St) (hx : Few 1000 x) (h : Lies w s x) (hp : PR x.p) :
    Calls Try.prog 31 #[.pointer (some ⟨g, 0, none⟩), wv s] w (GPost B g gl cap c (slabLn c a L x.p).fin x w) :=
  slabStep M s x hx h _ fun gx s1 w1 H e => by
    have := slabLine H hm hL hf (by rw [e]; exact hp.ep.2)
    rwa [e] at this
end Go.Proofs.Ytblkfbbdeodpjaa.Me
