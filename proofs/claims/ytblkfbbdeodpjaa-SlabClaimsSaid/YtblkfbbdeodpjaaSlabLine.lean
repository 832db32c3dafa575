/- Lines 33 and 34 of layer 8, where the slab is ready and the swap succeeds (made by genslab2.py). -/
import Derived.Test.YtblkfbbdeodpjaaEpochs
import Derived.Test.YtblkfbbdeodpjaaSlabReady
namespace Go.Proofs.Ytblkfbbdeodpjaa.Me
open Go Go.RowKit Go.Proofs.Ytblkfbbdeodpjaa.Gro Go.Proofs.Ytblkfbbdeodpjaa.Own Go.Proofs.Ytblkfbbdeodpjaa.Wd Go.Proofs.Ytblkfbbdeodpjaa.Ap Go.Proofs.Ytblkfbbdeodpjaa.Pl Go.Proofs.Ytblkfbbdeodpjaa.Wo
set_option linter.unusedVariables false
set_option linter.unusedSimpArgs false
set_option maxRecDepth 100000 in
set_option maxHeartbeats 8000000 in
theorem slabLook {B : Nat} {w0 w : World} {g gl cap gx : Nat} {c : Cfg} {a : Acc} {L : List Int} {s : Wk} (h : MX B w0 g gl cap gx c a L s w) (hf : c.Wf) (hm : L.length ≤ 1000) (j : Nat) (ha : aSlab c s.p.j = (j : Int)) (hj : j < L.length) (l0 : 0 ≤ L[j]) (l1 : L[j] < 18446744073709551616) (e1 : s.p.ep < 18446744073709551616) (hr : rdyB L[j] s.p.ep = true) :
    Calls Try.prog 129 #[.pointer (some ⟨g, 0, none⟩), .pointer (some ⟨gx, 0, none⟩)] w fun e w' => e = .returned (.int .i64 0) ∧ ∃ a, MX B w0 g gl cap gx c a L { s with p := { s.p with v := L[j], ln := 34 } } w' := by
  have HAN : RowKit.Hid (∀ w, Calls Try.prog 84 #[cv c, .int .i64 s.p.j] w fun e w' => e = .returned (.int .i64 (j : Int)) ∧ Below w.heap.size w w') := Lib.hid (fun w => ha ▸ Pl.slab c hf s.p.j w)
  have HRD : RowKit.Hid (∀ w, Calls Try.prog 83 #[.int .u64 L[j], .int .u64 s.p.ep] w (RetB (.bool true) w)) := Lib.hid (fun w => hr ▸ ready L[j] s.p.ep l0 l1 e1 w)
  obtain ⟨lj, hlj⟩ : ∃ x, L[j] = x := ⟨_, rfl⟩
  rw [hlj] at HRD ⊢
  have HLJ := Lib.hid hlj
  clear hr ha l0 l1 e1 hlj
  have f9 : ∀ s : Wk, (wc s)[9]? = some (.int .u64 s.p.ep) := fun _ => rfl
  have f28 : ∀ s : Wk, (wc s)[28]? = some (.int .i64 s.p.j) := fun _ => rfl
  have f25 : ∀ s : Wk, (wc s)[25]? = some (.int .u64 s.p.v) := fun _ => rfl
  have f0 : ∀ s : Wk, (wc s)[0]? = some (.int .i64 s.p.ln) := fun _ => rfl
  go_enter Try.func129, Try.ntmps129
  go_wp2
  have hS0 : ∃ a' v', MX B w0 g gl cap gx c a' L { s with p := { s.p with v := v' } } w.drew := ⟨a, s.p.v, h.keep (Below.drew (Below.refl _ _))⟩
  refine wp_region_held_drew (S := fun w' => ∃ a' v', MX B w0 g gl cap gx c a' L { s with p := { s.p with v := v' } } w') (by kernel_rfl) hS0 (fun hHeld => ?_)
  clear h hS0
  generalize w.drew = v0 at *
  refine wpAnyH_take (i := 0) (oi := _) (v := .pointer (some ⟨gx, 0, none⟩)) rfl (by kernel_rfl) (by kernel_rfl) (by kernel_rfl) (fun _ _ _ h => h) (Or.inl ⟨by rfl, fun w' hSw => by go_simp⟩) hHeld ?_
  try simp only [Act.put, List.getElem_toArray, List.getElem_cons_succ, List.getElem_cons_zero, List.setIfInBounds_toArray, List.set_cons_succ, List.set_cons_zero]
  refine wpAnyH_take (i := 1) (oi := _) (v := .pointer (some ⟨g, 0, none⟩)) rfl (by kernel_rfl) (by kernel_rfl) (by kernel_rfl) (fun _ _ _ h => h) (Or.inl ⟨by rfl, fun w' hSw => by go_simp⟩) hHeld ?_
  try simp only [Act.put, List.getElem_toArray, List.getElem_cons_succ, List.getElem_cons_zero, List.setIfInBounds_toArray, List.set_cons_succ, List.set_cons_zero]
  refine wpAnyH_take (i := 2) (oi := _) (v := .pointer (some ⟨g, 0, none⟩)) rfl (by kernel_rfl) (by kernel_rfl) (by kernel_rfl) (fun _ _ _ h => h) (Or.inl ⟨by rfl, fun w' hSw => by go_simp⟩) hHeld ?_
  try simp only [Act.put, List.getElem_toArray, List.getElem_cons_succ, List.getElem_cons_zero, List.setIfInBounds_toArray, List.set_cons_succ, List.set_cons_zero]
  refine wpAnyH_take (i := 3) (oi := _) (v := .pointer (some ⟨g, 0, none⟩)) rfl (by kernel_rfl) (by kernel_rfl) (by kernel_rfl) (fun _ _ _ h => h) (Or.inl ⟨by rfl, fun w' hSw => by go_simp⟩) hHeld ?_
  try simp only [Act.put, List.getElem_toArray, List.getElem_cons_succ, List.getElem_cons_zero, List.setIfInBounds_toArray, List.set_cons_succ, List.set_cons_zero]
  refine wpAnyH_take (i := 4) (oi := _) (v := .pointer (some ⟨g, 0, none⟩)) rfl (by kernel_rfl) (by kernel_rfl) (by kernel_rfl) (fun _ _ _ h => h) (Or.inl ⟨by rfl, fun w' hSw => by go_simp⟩) hHeld ?_
  try simp only [Act.put, List.getElem_toArray, List.getElem_cons_succ, List.getElem_cons_zero, List.setIfInBounds_toArray, List.set_cons_succ, List.set_cons_zero]
  refine wpAnyH_take (i := 5) (oi := _) (v := cv c) rfl (by kernel_rfl) (by kernel_rfl) (by kernel_rfl) (fun _ _ _ h => h) (Or.inl ⟨by rfl, fun w' hSw => by obtain ⟨a', v', HS⟩ := hSw; have xx := HS.M.B.cells; go_simp⟩) hHeld ?_
  try simp only [Act.put, List.getElem_toArray, List.getElem_cons_succ, List.getElem_cons_zero, List.setIfInBounds_toArray, List.set_cons_succ, List.set_cons_zero]
  refine wpAnyH_take (i := 6) (oi := _) (v := .pointer (some ⟨gx, 0, none⟩)) rfl (by kernel_rfl) (by kernel_rfl) (by kernel_rfl) (fun _ _ _ h => h) (Or.inl ⟨by rfl, fun w' hSw => by go_simp⟩) hHeld ?_
  try simp only [Act.put, List.getElem_toArray, List.getElem_cons_succ, List.getElem_cons_zero, List.setIfInBounds_toArray, List.set_cons_succ, List.set_cons_zero]
  refine wpAnyH_take (i := 7) (oi := _) (v := .pointer (some ⟨gx, 0, none⟩)) rfl (by kernel_rfl) (by kernel_rfl) (by kernel_rfl) (fun _ _ _ h => h) (Or.inl ⟨by rfl, fun w' hSw => by go_simp⟩) hHeld ?_
  try simp only [Act.put, List.getElem_toArray, List.getElem_cons_succ, List.getElem_cons_zero, List.setIfInBounds_toArray, List.set_cons_succ, List.set_cons_zero]
  refine wpAnyH_take (i := 8) (oi := _) (v := .pointer (some ⟨gx, 28, none⟩)) rfl (by kernel_rfl) (by kernel_rfl) (by kernel_rfl) (fun _ _ _ h => h) (Or.inl ⟨by rfl, fun w' hSw => by go_simp⟩) hHeld ?_
  try simp only [Act.put, List.getElem_toArray, List.getElem_cons_succ, List.getElem_cons_zero, List.setIfInBounds_toArray, List.set_cons_succ, List.set_cons_zero]
  refine wpAnyH_take (i := 9) (oi := _) (v := .int .i64 s.p.j) rfl (by kernel_rfl) (by kernel_rfl) (by kernel_rfl) (fun _ _ _ h => h) (Or.inl ⟨by rfl, fun w' hSw => by obtain ⟨a', v', HS⟩ := hSw; have xx := HS.X.cells; go_simp⟩) hHeld ?_
  try simp only [Act.put, List.getElem_toArray, List.getElem_cons_succ, List.getElem_cons_zero, List.setIfInBounds_toArray, List.set_cons_succ, List.set_cons_zero]
  refine wpAnyH_ready (rs := [10]) (by kernel_rfl) (by simp) ?_
  refine AllReadyH.cons (o := _) rfl (fun K hK => ?_) AllReadyH.nil
  go_simp
  refine (HAN.out _).mono ?_
  rintro e z1 ⟨rfl, hb⟩
  obtain ⟨a1, v1, H1⟩ := hHeld
  refine hK.out _ _ ⟨a1, v1, H1.keep hb⟩ (fun hHeld => ?_)
  clear hK K H1 hb
  try simp only [Act.put, List.getElem_toArray, List.getElem_cons_succ, List.getElem_cons_zero, List.setIfInBounds_toArray, List.set_cons_succ, List.set_cons_zero]
  refine wpAnyH_ready (rs := [11]) (by kernel_rfl) (by simp) ?_
  refine AllReadyH.cons (o := _) rfl (fun K hK => ?_) AllReadyH.nil
  go_simp
  obtain ⟨a1, v1, H1⟩ := hHeld
  have hld := load_in H1.M j hj hm
  rw [HLJ.out] at hld
  refine hld.mono ?_
  rintro e z2 ⟨rfl, M2, T2⟩
  have H2 := H1.mem M2 T2
  refine hK.out _ _ ⟨_, v1, H2⟩ (fun hHeld => ?_)
  clear hK K H1 M2 T2 hld
  try simp only [Act.put, List.getElem_toArray, List.getElem_cons_succ, List.getElem_cons_zero, List.setIfInBounds_toArray, List.set_cons_succ, List.set_cons_zero]
  refine wpAnyH_take (i := 12) (oi := _) (v := .pointer (some ⟨gx, 0, none⟩)) rfl (by kernel_rfl) (by kernel_rfl) (by kernel_rfl) (fun _ _ _ h => h) (Or.inl ⟨by rfl, fun w' hSw => by go_simp⟩) hHeld ?_
  try simp only [Act.put, List.getElem_toArray, List.getElem_cons_succ, List.getElem_cons_zero, List.setIfInBounds_toArray, List.set_cons_succ, List.set_cons_zero]
  refine wpAnyH_take (i := 13) (oi := _) (v := .pointer (some ⟨gx, 25, none⟩)) rfl (by kernel_rfl) (by kernel_rfl) (by kernel_rfl) (fun _ _ _ h => h) (Or.inl ⟨by rfl, fun w' hSw => by go_simp⟩) hHeld ?_
  try simp only [Act.put, List.getElem_toArray, List.getElem_cons_succ, List.getElem_cons_zero, List.setIfInBounds_toArray, List.set_cons_succ, List.set_cons_zero]
  refine wpAnyH_ready (rs := [14]) (by kernel_rfl) (by simp) ?_
  refine AllReadyH.cons (o := _) rfl (fun K hK => ?_) AllReadyH.nil
  have x2 := H2.X.cells
  have z2f := H2.X.frozen
  have e25 : (z2.cell? ⟨gx, 25, none⟩).isSome = true := by rw [x2, f25]; rfl
  have H3 := H2.set (s' := { s with p := { s.p with v := lj } }) 25 (.int .u64 lj) rfl
  go_simp
  refine hK.out _ _ ⟨_, lj, H3⟩ (fun hHeld => ?_)
  clear hK K H2 x2 z2f e25
  try simp only [Act.put, List.getElem_toArray, List.getElem_cons_succ, List.getElem_cons_zero, List.setIfInBounds_toArray, List.set_cons_succ, List.set_cons_zero]
  refine wpAnyH_done (by kernel_rfl) ?_ _
  clear hHeld
  obtain ⟨z3, hz3⟩ : ∃ u, u = z2.setCell ⟨gx, 25, none⟩ (.int .u64 lj) := ⟨_, rfl⟩
  rw [← hz3] at H3 ⊢
  clear hz3
  have x3 := H3.X.cells
  have l3 := H3.lt
  go_wp2
  refine wp_region_grown (by kernel_rfl) (by kernel_rfl) ?_
  have hg := @gcell
  repeat (go_big_quiet_step (exact grown_of (HRD.out _)))
  refine wpQuiet_nil ?_
  rintro w5 ⟨⟨_, hb5⟩, rfl⟩
  clear hg
  have H5 := H3.keep hb5
  have x5 := H5.X.cells
  have z5 := H5.X.frozen
  have e0 : (w5.cell? ⟨gx, 0, none⟩).isSome = true := by rw [x5, f0]; rfl
  have H6 := H5.set (s' := { s with p := { s.p with v := lj, ln := 34 } }) 0 (.int .i64 34) rfl
  clear x3 l3 H3 hb5
  go_wp2
  go_ret
  exact ⟨rfl, _, H6⟩
set_option maxRecDepth 10000 in
set_option maxHeartbeats 4000000 in
theorem slabChange {B : Nat} {w0 w : World} {g gl cap gx : Nat} {c : Cfg} {a : Acc} {L : List Int} {s : Wk} (h : MX B w0 g gl cap gx c a L s w) (hf : c.Wf) (hm : L.length ≤ 1000) (jj : Int) (j : Nat) (ha : aSlab c jj = (j : Int)) (hj : j < L.length) (hv : L[j] = s.p.v) :
    Calls Try.prog 130 #[.pointer (some ⟨g, 0, none⟩), .pointer (some ⟨gx, 0, none⟩), .int .i64 jj, .int .i64 1] w fun e w' => e = .returned (.int .i64 1) ∧ ∃ a, MX B w0 g gl cap gx c a (L.set j (Pk.sl 1 0 0)) s w' := by
  have f25 : ∀ s : Wk, (wc s)[25]? = some (.int .u64 s.p.v) := fun _ => rfl
  have HAN : RowKit.Hid (∀ w, Calls Try.prog 84 #[cv c, .int .i64 jj] w fun e w' => e = .returned (.int .i64 (j : Int)) ∧ Below w.heap.size w w') := Lib.hid (fun w => ha ▸ Pl.slab c hf jj w)
  have HV := Lib.hid hv
  have x0 := h.X.cells
  have m0 := h.M.B.cells
  have lx := h.lt
  have lg := h.M.lt.1
  clear ha hv
  go_enter Try.func130, Try.ntmps130
  go_wp2
  refine wp_region_grown_tail 13 (by kernel_rfl) (by kernel_rfl) ?_
  simp only [List.take_succ_cons, List.take_zero, List.drop_succ_cons, List.drop_zero]
  have hg := @gcell
  repeat (go_big_quiet_step (first | exact grown_of (HAN.out _) | exact grown_same (Pk.slab 1 0 0 _)))
  refine wpQuiet_nil ?_
  rintro w1 ⟨⟨_, hb1⟩, rfl⟩
  clear hg
  have H1 := h.keep hb1
  have hcas := cas_yes H1.M j hj hm (Pk.sl 1 0 0)
  rw [HV.out] at hcas
  have HCA := Lib.hid hcas
  clear hcas x0 m0 lx lg h hb1
  go_wp2_with fail
  refine HCA.out.mono ?_
  rintro e w2 ⟨rfl, M2, T2⟩
  have H2 := H1.mem M2 T2
  go_wp2
  go_ret
  exact ⟨rfl, _, H2⟩
set_option maxRecDepth 10000 in
set_option maxHeartbeats 2000000 in
theorem slabLine33 {B : Nat} {w0 w : World} {g gl cap gx : Nat} {c : Cfg} {a : Acc} {L : List Int} {s : Wk} (h : MX B w0 g gl cap gx c a L s w) (hf : c.Wf) (hl : s.p.ln = 33) (hm : L.length ≤ 1000) (j : Nat) (ha : aSlab c s.p.j = (j : Int)) (hj : j < L.length) (l0 : 0 ≤ L[j]) (l1 : L[j] < 18446744073709551616) (e1 : s.p.ep < 18446744073709551616) (hr : rdyB L[j] s.p.ep = true) :
    Calls Try.prog 78 #[.pointer (some ⟨g, 0, none⟩), .pointer (some ⟨gx, 0, none⟩)] w (LPost B w0 g gl cap gx c L { s with p := { s.p with v := L[j], ln := 34 } } 0 true) := by
  have f0 : ∀ s : Wk, (wc s)[0]? = some (.int .i64 s.p.ln) := fun _ => rfl
  have f28 : ∀ s : Wk, (wc s)[28]? = some (.int .i64 s.p.j) := fun _ => rfl
  have t30 : (s.p.ln == 30) = false := by simp [hl]
  have t31 : (s.p.ln == 31) = false := by simp [hl]
  have t32 : (s.p.ln == 32) = false := by simp [hl]
  have t33 : (s.p.ln == 33) = true := by simp [hl]
  have x0 := h.X.cells
  have HC := Lib.hid (slabLook h hf hm j ha hj l0 l1 e1 hr)
  clear hl
  go_enter Try.func78, Try.ntmps78
  go_wp2_with fail
  refine HC.out.mono ?_
  rintro e w1 ⟨rfl, a1, H1⟩
  go_wp2
  go_ret2
  exact ⟨rfl, _, H1⟩
set_option maxRecDepth 10000 in
set_option maxHeartbeats 2000000 in
theorem slabLine34 {B : Nat} {w0 w : World} {g gl cap gx : Nat} {c : Cfg} {a : Acc} {L : List Int} {s : Wk} (h : MX B w0 g gl cap gx c a L s w) (hf : c.Wf) (hl : s.p.ln = 34) (hm : L.length ≤ 1000) (j : Nat) (ha : aSlab c s.p.j = (j : Int)) (hj : j < L.length) (hv : L[j] = s.p.v) :
    Calls Try.prog 78 #[.pointer (some ⟨g, 0, none⟩), .pointer (some ⟨gx, 0, none⟩)] w (LPost B w0 g gl cap gx c (L.set j (Pk.sl 1 0 0)) s 1 true) := by
  have f0 : ∀ s : Wk, (wc s)[0]? = some (.int .i64 s.p.ln) := fun _ => rfl
  have f28 : ∀ s : Wk, (wc s)[28]? = some (.int .i64 s.p.j) := fun _ => rfl
  have t30 : (s.p.ln == 30) = false := by simp [hl]
  have t31 : (s.p.ln == 31) = false := by simp [hl]
  have t32 : (s.p.ln == 32) = false := by simp [hl]
  have t33 : (s.p.ln == 33) = false := by simp [hl]
  have t34 : (s.p.ln == 34) = true := by simp [hl]
  have x0 := h.X.cells
  have HC := Lib.hid (slabChange h hf hm s.p.j j ha hj hv)
  clear hl
  go_enter Try.func78, Try.ntmps78
  go_wp2_with fail
  refine HC.out.mono ?_
  rintro e w1 ⟨rfl, a1, H1⟩
  go_wp2
  go_ret2
  exact ⟨rfl, _, H1⟩
end Go.Proofs.Ytblkfbbdeodpjaa.Me
