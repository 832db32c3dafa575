/- bag.Ripe, way by way (made by genbag3.py). -/
import Derived.Test.YtkplkhcboobfaaaBagRipe0
namespace Go.Proofs.Ytkplkhcboobfaaa.Wo
open Go Go.RowKit Go.Proofs.Ytkplkhcboobfaaa.Gro Go.Proofs.Ytkplkhcboobfaaa.Own Go.Proofs.Ytkplkhcboobfaaa.Wd Go.Proofs.Ytkplkhcboobfaaa.Ap Go.Proofs.Ytkplkhcboobfaaa.Pl
set_option linter.unusedVariables false
set_option linter.unusedSimpArgs false
set_option maxRecDepth 10000 in
set_option maxHeartbeats 4000000 in
theorem ripe_yyy (s : Wk) (x : St) (hx : Few 200 x) (e : Int) (he : e < 18446744073709551616) (w : World) (h : Lies w s x) (h0 : ripeB x.p.t0 e = true) (h1 : ripeB x.p.t1 e = true) (h2 : ripeB x.p.t2 e = true) :
    Calls Try.prog 40 #[wv s, .int .u64 e] w fun r w' => ∃ s', r = .returned (wv s') ∧ LiesF w.heap.size w' s' (ripeS x e) ∧ Below w.heap.size w w' := by
  have H0 := Lib.hid h0
  have H1 := Lib.hid h1
  have H2 := Lib.hid h2
  clear h0 h1 h2
  have HE := Lib.hid he
  clear he
  have e11 : ∀ s : Wk, (wc s)[11]? = some (.int .u64 s.p.t0) := fun _ => rfl
  have e12 : ∀ s : Wk, (wc s)[12]? = some (.slice s.l0.ad s.l0.len s.l0.cap) := fun _ => rfl
  have e13 : ∀ s : Wk, (wc s)[13]? = some (.int .u64 s.p.t1) := fun _ => rfl
  have e14 : ∀ s : Wk, (wc s)[14]? = some (.slice s.l1.ad s.l1.len s.l1.cap) := fun _ => rfl
  have e15 : ∀ s : Wk, (wc s)[15]? = some (.int .u64 s.p.t2) := fun _ => rfl
  have e16 : ∀ s : Wk, (wc s)[16]? = some (.slice s.l2.ad s.l2.len s.l2.cap) := fun _ => rfl
  have T0 := Two.start w s
  go_enter Try.func40, Try.ntmps40
  go_wp2_with (refine wpList_load_row rfl 63 _ rfl (w.heap.size) rfl _ (wc s) (0, 0) _ (by exact T0.X) Try.underlying63 rfl (by kernel_rfl) ?_)
  refine (copyWork s x (hx.mono (by omega)) _ (h.keep T0.below)).mono ?_
  rintro r w1 ⟨s1, rfl, A1, hb1⟩
  have T1 := T0.keep hb1
  have T2 := T1.rowX s1
  have PB := (A1.part).base (B' := w.heap.size) (by simp; omega)
  have P2 := PB.setRow_ty T1.X (by decide) (by decide) (wc s1)
  have HP := Lib.hid A1.p
  have x2 := T2.X.cells
  have b2 := T2.lt
  have i0 := bag_index0 s1
  have i1 := bag_index1 s1
  have i2 := bag_index2 s1
  have R : Rp w w.heap.size (w.heap.size + 1) w1.heap.size s1 x s1 x #[.int .u64 0, .slice none 0 0, .int .u64 0, .slice none 0 0, .int .u64 0, .slice none 0 0] ((w1.setRow w.heap.size (wc s1)).alloc (.cells #[.int .u64 0, .slice none 0 0, .int .u64 0, .slice none 0 0, .int .u64 0, .slice none 0 0] 61)) :=
    have hb : Below (w1.setRow w.heap.size (wc s1)).heap.size (w1.setRow w.heap.size (wc s1)) ((w1.setRow w.heap.size (wc s1)).alloc (.cells #[.int .u64 0, .slice none 0 0, .int .u64 0, .slice none 0 0, .int .u64 0, .slice none 0 0] 61)) := (Below.refl _ _).alloc (Nat.le_refl _) _
    ⟨T2.keep hb, by have := Bk.new (w1.setRow w.heap.size (wc s1)) #[.int .u64 0, .slice none 0 0, .int .u64 0, .slice none 0 0, .int .u64 0, .slice none 0 0] 61; simpa using this, by have := hb1.size; simp at this; omega, P2.keep hb, P2.keep hb⟩
  have x3 := R.T.X.cells
  clear T0 A1 hb1 PB x2
  go_wp2_with (refine wpList_store_row rfl 63 _ _ rfl (w.heap.size) (wc s1) rfl rfl _ _ (by exact T1.X) (by kernel_rfl) (by kernel_rfl) (by kernel_rfl) ?_)
  obtain ⟨u0, hu0⟩ : ∃ u0, u0 = (w1.setRow w.heap.size (wc s1)).alloc (.cells #[.int .u64 0, .slice none 0 0, .int .u64 0, .slice none 0 0, .int .u64 0, .slice none 0 0] 61) := ⟨_, rfl⟩
  rw [← hu0] at R ⊢
  obtain ⟨gk, hgk⟩ : ∃ g, g = w1.heap.size := ⟨_, rfl⟩
  rw [← hgk] at R ⊢
  clear hu0 hgk T1 T2 P2 b2 x3
  refine wp_loop_rounds 4 ?_
  rw [rounds_succ]
  go_wp2_with fail
  refine (isRipe (b := true) (by rw [HP.out]; exact H0.out) s1.l0 _ HE.out).mono ?_
  rintro r v0 ⟨rfl, hb⟩
  have BB := (Bk.new u0 #[.int .u64 s1.p.t0, .slice s1.l0.ad s1.l0.len s1.l0.cap] 60).keep hb
  have zb := BB.cells
  have R := (R.keep ((Below.refl _ _).alloc (Nat.le_refl _) (.cells #[.int .u64 s1.p.t0, .slice s1.l0.ad s1.l0.len s1.l0.cap] 60))).keep hb
  clear hb
  go_wp2_with (refine wpList_load_row rfl 63 _ rfl (w.heap.size) rfl _ (wc s1) (0, 0) _ (by exact R.T.X) Try.underlying63 rfl (by kernel_rfl) ?_)
  refine (rackHold s1 x (⟨by have := hx.rk; simp <;> omega, by have := hx.l0; simp <;> omega, by have := hx.l1; simp <;> omega, by have := hx.l2; simp <;> omega, by have := hx.hl; have := hx.l0; have := hx.l1; have := hx.l2; simp <;> omega, by have := hx.rd; simp <;> omega⟩) s1.l0 x.l0 (by have := hx.l0; omega) _ R.P.lies R.A.l0.reads).mono ?_
  rintro r q0 ⟨s2, rfl, ⟨_, _, _, _, _, O, A⟩, hb⟩
  have hz := R.T.below.size
  have PN : Part w.heap.size q0 s2 { x with hl := x.hl ++ x.l0 } := Part.base ⟨A.p, A.rk, A.l0, A.l1, A.l2, O, A.rd⟩ hz
  have R := R.keep hb
  have RN := R.rowX PN
  clear O A hb BB zb PN hz
  go_wp2_with (refine wpList_store_row rfl 63 _ _ rfl (w.heap.size) (wc s2) rfl rfl _ _ (by exact R.T.X) (by kernel_rfl) (by kernel_rfl) (by kernel_rfl) ?_)
  have R := RN
  clear RN
  obtain ⟨u1, hu1⟩ : ∃ y, y = q0.setRow w.heap.size (wc s2) := ⟨_, rfl⟩
  rw [← hu1] at R ⊢
  clear hu1
  rw [rounds_succ]
  go_wp2_with fail
  refine (isRipe (b := true) (by rw [HP.out]; exact H1.out) s1.l1 _ HE.out).mono ?_
  rintro r v1 ⟨rfl, hb⟩
  have BB := (Bk.new u1 #[.int .u64 s1.p.t1, .slice s1.l1.ad s1.l1.len s1.l1.cap] 60).keep hb
  have zb := BB.cells
  have R := (R.keep ((Below.refl _ _).alloc (Nat.le_refl _) (.cells #[.int .u64 s1.p.t1, .slice s1.l1.ad s1.l1.len s1.l1.cap] 60))).keep hb
  clear hb
  go_wp2_with (refine wpList_load_row rfl 63 _ rfl (w.heap.size) rfl _ (wc s2) (0, 0) _ (by exact R.T.X) Try.underlying63 rfl (by kernel_rfl) ?_)
  refine (rackHold s2 { x with hl := x.hl ++ x.l0 } (⟨by have := hx.rk; simp <;> omega, by have := hx.l0; simp <;> omega, by have := hx.l1; simp <;> omega, by have := hx.l2; simp <;> omega, by have := hx.hl; have := hx.l0; have := hx.l1; have := hx.l2; simp <;> omega, by have := hx.rd; simp <;> omega⟩) s1.l1 x.l1 (by have := hx.l1; omega) _ R.P.lies R.A.l1.reads).mono ?_
  rintro r q1 ⟨s3, rfl, ⟨_, _, _, _, _, O, A⟩, hb⟩
  have hz := R.T.below.size
  have PN : Part w.heap.size q1 s3 { x with hl := x.hl ++ x.l0 ++ x.l1 } := Part.base ⟨A.p, A.rk, A.l0, A.l1, A.l2, O, A.rd⟩ hz
  have R := R.keep hb
  have RN := R.rowX PN
  clear O A hb BB zb PN hz
  go_wp2_with (refine wpList_store_row rfl 63 _ _ rfl (w.heap.size) (wc s3) rfl rfl _ _ (by exact R.T.X) (by kernel_rfl) (by kernel_rfl) (by kernel_rfl) ?_)
  have R := RN
  clear RN
  obtain ⟨u2, hu2⟩ : ∃ y, y = q1.setRow w.heap.size (wc s3) := ⟨_, rfl⟩
  rw [← hu2] at R ⊢
  clear hu2
  rw [rounds_succ]
  go_wp2_with fail
  refine (isRipe (b := true) (by rw [HP.out]; exact H2.out) s1.l2 _ HE.out).mono ?_
  rintro r v2 ⟨rfl, hb⟩
  have BB := (Bk.new u2 #[.int .u64 s1.p.t2, .slice s1.l2.ad s1.l2.len s1.l2.cap] 60).keep hb
  have zb := BB.cells
  have R := (R.keep ((Below.refl _ _).alloc (Nat.le_refl _) (.cells #[.int .u64 s1.p.t2, .slice s1.l2.ad s1.l2.len s1.l2.cap] 60))).keep hb
  clear hb
  go_wp2_with (refine wpList_load_row rfl 63 _ rfl (w.heap.size) rfl _ (wc s3) (0, 0) _ (by exact R.T.X) Try.underlying63 rfl (by kernel_rfl) ?_)
  refine (rackHold s3 { x with hl := x.hl ++ x.l0 ++ x.l1 } (⟨by have := hx.rk; simp <;> omega, by have := hx.l0; simp <;> omega, by have := hx.l1; simp <;> omega, by have := hx.l2; simp <;> omega, by have := hx.hl; have := hx.l0; have := hx.l1; have := hx.l2; simp <;> omega, by have := hx.rd; simp <;> omega⟩) s1.l2 x.l2 (by have := hx.l2; omega) _ R.P.lies R.A.l2.reads).mono ?_
  rintro r q2 ⟨s4, rfl, ⟨_, _, _, _, _, O, A⟩, hb⟩
  have hz := R.T.below.size
  have PN : Part w.heap.size q2 s4 { x with hl := x.hl ++ x.l0 ++ x.l1 ++ x.l2 } := Part.base ⟨A.p, A.rk, A.l0, A.l1, A.l2, O, A.rd⟩ hz
  have R := R.keep hb
  have RN := R.rowX PN
  clear O A hb BB zb PN hz
  go_wp2_with (refine wpList_store_row rfl 63 _ _ rfl (w.heap.size) (wc s4) rfl rfl _ _ (by exact R.T.X) (by kernel_rfl) (by kernel_rfl) (by kernel_rfl) ?_)
  have R := RN
  clear RN
  obtain ⟨u3, hu3⟩ : ∃ y, y = q2.setRow w.heap.size (wc s4) := ⟨_, rfl⟩
  rw [← hu3] at R ⊢
  clear hu3
  rw [rounds_succ]
  have Q6 := R.T.rowX { s4 with p := { s4.p with t0 := 0, t1 := 0, t2 := 0 }, l0 := nilS, l1 := nilS, l2 := nilS }
  have Q7 := Q6.rowZ { s4 with p := { s4.p with t0 := 0, t1 := 0, t2 := 0 }, l0 := nilS, l1 := nilS, l2 := nilS }
  clear i0 i1 i2 e11 e12 e13 e14 e15 e16 hx h
  go_wp2_with (first | (refine wpList_load_row rfl 61 _ rfl gk rfl _ (#[(.int .u64 0), (.slice none 0 0), (.int .u64 0), (.slice none 0 0), (.int .u64 0), (.slice none 0 0)]) (0, 0) _ (by exact R.K) Try.underlying61 rfl (by kernel_rfl) ?_) | (refine Sub.wpList_store_sub rfl 61 _ _ rfl w.heap.size 11 #[(.int .u64 0), (.slice none 0 0), (.int .u64 0), (.slice none 0 0), (.int .u64 0), (.slice none 0 0)] rfl rfl 63 (wc s4) (wc { s4 with p := { s4.p with t0 := 0, t1 := 0, t2 := 0 }, l0 := nilS, l1 := nilS, l2 := nilS }) (by exact R.T.X) (by kernel_rfl) (Nat.le_of_ble_eq_true (by kernel_rfl)) (by kernel_rfl) (by kernel_rfl) ?_) | (refine wpList_load_row rfl 63 _ rfl (w.heap.size) rfl _ (wc { s4 with p := { s4.p with t0 := 0, t1 := 0, t2 := 0 }, l0 := nilS, l1 := nilS, l2 := nilS }) (0, 0) _ (by exact Q6.X) Try.underlying63 rfl (by kernel_rfl) ?_) | (refine wpList_store_row rfl 63 _ _ rfl (w.heap.size + 1) (wc { s4 with p := { s4.p with t0 := 0, t1 := 0, t2 := 0 }, l0 := nilS, l1 := nilS, l2 := nilS }) rfl rfl _ _ (by exact Q6.Z) (by kernel_rfl) (by kernel_rfl) (by kernel_rfl) ?_))
  refine bodyPost_ret (v := wv { s4 with p := { s4.p with t0 := 0, t1 := 0, t2 := 0 }, l0 := nilS, l1 := nilS, l2 := nilS }) ?_ rfl ⟨_, rfl, ?_, Q7.below⟩
  · exact results_cell_row (p := 4) (ty := 63) Try.results40 _ _ (w.heap.size + 1) 63 _ (0, 0) _ rfl Q7.Z Try.underlying63 rfl (by kernel_rfl)
  · have PE := (R.P.setRow_ty R.T.X (by decide) (by decide) (wc { s4 with p := { s4.p with t0 := 0, t1 := 0, t2 := 0 }, l0 := nilS, l1 := nilS, l2 := nilS })).setRow_ty Q6.Z (by decide) (by decide) (wc { s4 with p := { s4.p with t0 := 0, t1 := 0, t2 := 0 }, l0 := nilS, l1 := nilS, l2 := nilS })
    have AE := (R.A.setRow_ty R.T.X (by decide) (by decide) (wc { s4 with p := { s4.p with t0 := 0, t1 := 0, t2 := 0 }, l0 := nilS, l1 := nilS, l2 := nilS })).setRow_ty Q6.Z (by decide) (by decide) (wc { s4 with p := { s4.p with t0 := 0, t1 := 0, t2 := 0 }, l0 := nilS, l1 := nilS, l2 := nilS })
    unfold ripeS
    rw [H0.out, H1.out, H2.out]
    refine ⟨?_, PE.rk.rdF, Fresh.nil.rdF (t := 3), Fresh.nil.rdF (t := 3), Fresh.nil.rdF (t := 3), ?_, PE.rd.rdF⟩
    · simp [PE.p, HP.out]
    · simpa using PE.hl.rdF
set_option maxRecDepth 10000 in
set_option maxHeartbeats 4000000 in
theorem ripe_yyn (s : Wk) (x : St) (hx : Few 200 x) (e : Int) (he : e < 18446744073709551616) (w : World) (h : Lies w s x) (h0 : ripeB x.p.t0 e = true) (h1 : ripeB x.p.t1 e = true) (h2 : ripeB x.p.t2 e = false) :
    Calls Try.prog 40 #[wv s, .int .u64 e] w fun r w' => ∃ s', r = .returned (wv s') ∧ LiesF w.heap.size w' s' (ripeS x e) ∧ Below w.heap.size w w' := by
  have H0 := Lib.hid h0
  have H1 := Lib.hid h1
  have H2 := Lib.hid h2
  clear h0 h1 h2
  have HE := Lib.hid he
  clear he
  have e11 : ∀ s : Wk, (wc s)[11]? = some (.int .u64 s.p.t0) := fun _ => rfl
  have e12 : ∀ s : Wk, (wc s)[12]? = some (.slice s.l0.ad s.l0.len s.l0.cap) := fun _ => rfl
  have e13 : ∀ s : Wk, (wc s)[13]? = some (.int .u64 s.p.t1) := fun _ => rfl
  have e14 : ∀ s : Wk, (wc s)[14]? = some (.slice s.l1.ad s.l1.len s.l1.cap) := fun _ => rfl
  have e15 : ∀ s : Wk, (wc s)[15]? = some (.int .u64 s.p.t2) := fun _ => rfl
  have e16 : ∀ s : Wk, (wc s)[16]? = some (.slice s.l2.ad s.l2.len s.l2.cap) := fun _ => rfl
  have T0 := Two.start w s
  go_enter Try.func40, Try.ntmps40
  go_wp2_with (refine wpList_load_row rfl 63 _ rfl (w.heap.size) rfl _ (wc s) (0, 0) _ (by exact T0.X) Try.underlying63 rfl (by kernel_rfl) ?_)
  refine (copyWork s x (hx.mono (by omega)) _ (h.keep T0.below)).mono ?_
  rintro r w1 ⟨s1, rfl, A1, hb1⟩
  have T1 := T0.keep hb1
  have T2 := T1.rowX s1
  have PB := (A1.part).base (B' := w.heap.size) (by simp; omega)
  have P2 := PB.setRow_ty T1.X (by decide) (by decide) (wc s1)
  have HP := Lib.hid A1.p
  have x2 := T2.X.cells
  have b2 := T2.lt
  have i0 := bag_index0 s1
  have i1 := bag_index1 s1
  have i2 := bag_index2 s1
  have R : Rp w w.heap.size (w.heap.size + 1) w1.heap.size s1 x s1 x #[.int .u64 0, .slice none 0 0, .int .u64 0, .slice none 0 0, .int .u64 0, .slice none 0 0] ((w1.setRow w.heap.size (wc s1)).alloc (.cells #[.int .u64 0, .slice none 0 0, .int .u64 0, .slice none 0 0, .int .u64 0, .slice none 0 0] 61)) :=
    have hb : Below (w1.setRow w.heap.size (wc s1)).heap.size (w1.setRow w.heap.size (wc s1)) ((w1.setRow w.heap.size (wc s1)).alloc (.cells #[.int .u64 0, .slice none 0 0, .int .u64 0, .slice none 0 0, .int .u64 0, .slice none 0 0] 61)) := (Below.refl _ _).alloc (Nat.le_refl _) _
    ⟨T2.keep hb, by have := Bk.new (w1.setRow w.heap.size (wc s1)) #[.int .u64 0, .slice none 0 0, .int .u64 0, .slice none 0 0, .int .u64 0, .slice none 0 0] 61; simpa using this, by have := hb1.size; simp at this; omega, P2.keep hb, P2.keep hb⟩
  have x3 := R.T.X.cells
  clear T0 A1 hb1 PB x2
  go_wp2_with (refine wpList_store_row rfl 63 _ _ rfl (w.heap.size) (wc s1) rfl rfl _ _ (by exact T1.X) (by kernel_rfl) (by kernel_rfl) (by kernel_rfl) ?_)
  obtain ⟨u0, hu0⟩ : ∃ u0, u0 = (w1.setRow w.heap.size (wc s1)).alloc (.cells #[.int .u64 0, .slice none 0 0, .int .u64 0, .slice none 0 0, .int .u64 0, .slice none 0 0] 61) := ⟨_, rfl⟩
  rw [← hu0] at R ⊢
  obtain ⟨gk, hgk⟩ : ∃ g, g = w1.heap.size := ⟨_, rfl⟩
  rw [← hgk] at R ⊢
  clear hu0 hgk T1 T2 P2 b2 x3
  refine wp_loop_rounds 4 ?_
  rw [rounds_succ]
  go_wp2_with fail
  refine (isRipe (b := true) (by rw [HP.out]; exact H0.out) s1.l0 _ HE.out).mono ?_
  rintro r v0 ⟨rfl, hb⟩
  have BB := (Bk.new u0 #[.int .u64 s1.p.t0, .slice s1.l0.ad s1.l0.len s1.l0.cap] 60).keep hb
  have zb := BB.cells
  have R := (R.keep ((Below.refl _ _).alloc (Nat.le_refl _) (.cells #[.int .u64 s1.p.t0, .slice s1.l0.ad s1.l0.len s1.l0.cap] 60))).keep hb
  clear hb
  go_wp2_with (refine wpList_load_row rfl 63 _ rfl (w.heap.size) rfl _ (wc s1) (0, 0) _ (by exact R.T.X) Try.underlying63 rfl (by kernel_rfl) ?_)
  refine (rackHold s1 x (⟨by have := hx.rk; simp <;> omega, by have := hx.l0; simp <;> omega, by have := hx.l1; simp <;> omega, by have := hx.l2; simp <;> omega, by have := hx.hl; have := hx.l0; have := hx.l1; have := hx.l2; simp <;> omega, by have := hx.rd; simp <;> omega⟩) s1.l0 x.l0 (by have := hx.l0; omega) _ R.P.lies R.A.l0.reads).mono ?_
  rintro r q0 ⟨s2, rfl, ⟨_, _, _, _, _, O, A⟩, hb⟩
  have hz := R.T.below.size
  have PN : Part w.heap.size q0 s2 { x with hl := x.hl ++ x.l0 } := Part.base ⟨A.p, A.rk, A.l0, A.l1, A.l2, O, A.rd⟩ hz
  have R := R.keep hb
  have RN := R.rowX PN
  clear O A hb BB zb PN hz
  go_wp2_with (refine wpList_store_row rfl 63 _ _ rfl (w.heap.size) (wc s2) rfl rfl _ _ (by exact R.T.X) (by kernel_rfl) (by kernel_rfl) (by kernel_rfl) ?_)
  have R := RN
  clear RN
  obtain ⟨u1, hu1⟩ : ∃ y, y = q0.setRow w.heap.size (wc s2) := ⟨_, rfl⟩
  rw [← hu1] at R ⊢
  clear hu1
  rw [rounds_succ]
  go_wp2_with fail
  refine (isRipe (b := true) (by rw [HP.out]; exact H1.out) s1.l1 _ HE.out).mono ?_
  rintro r v1 ⟨rfl, hb⟩
  have BB := (Bk.new u1 #[.int .u64 s1.p.t1, .slice s1.l1.ad s1.l1.len s1.l1.cap] 60).keep hb
  have zb := BB.cells
  have R := (R.keep ((Below.refl _ _).alloc (Nat.le_refl _) (.cells #[.int .u64 s1.p.t1, .slice s1.l1.ad s1.l1.len s1.l1.cap] 60))).keep hb
  clear hb
  go_wp2_with (refine wpList_load_row rfl 63 _ rfl (w.heap.size) rfl _ (wc s2) (0, 0) _ (by exact R.T.X) Try.underlying63 rfl (by kernel_rfl) ?_)
  refine (rackHold s2 { x with hl := x.hl ++ x.l0 } (⟨by have := hx.rk; simp <;> omega, by have := hx.l0; simp <;> omega, by have := hx.l1; simp <;> omega, by have := hx.l2; simp <;> omega, by have := hx.hl; have := hx.l0; have := hx.l1; have := hx.l2; simp <;> omega, by have := hx.rd; simp <;> omega⟩) s1.l1 x.l1 (by have := hx.l1; omega) _ R.P.lies R.A.l1.reads).mono ?_
  rintro r q1 ⟨s3, rfl, ⟨_, _, _, _, _, O, A⟩, hb⟩
  have hz := R.T.below.size
  have PN : Part w.heap.size q1 s3 { x with hl := x.hl ++ x.l0 ++ x.l1 } := Part.base ⟨A.p, A.rk, A.l0, A.l1, A.l2, O, A.rd⟩ hz
  have R := R.keep hb
  have RN := R.rowX PN
  clear O A hb BB zb PN hz
  go_wp2_with (refine wpList_store_row rfl 63 _ _ rfl (w.heap.size) (wc s3) rfl rfl _ _ (by exact R.T.X) (by kernel_rfl) (by kernel_rfl) (by kernel_rfl) ?_)
  have R := RN
  clear RN
  obtain ⟨u2, hu2⟩ : ∃ y, y = q1.setRow w.heap.size (wc s3) := ⟨_, rfl⟩
  rw [← hu2] at R ⊢
  clear hu2
  rw [rounds_succ]
  go_wp2_with fail
  refine (isRipe (b := false) (by rw [HP.out]; exact H2.out) s1.l2 _ HE.out).mono ?_
  rintro r v2 ⟨rfl, hb⟩
  have BB := (Bk.new u2 #[.int .u64 s1.p.t2, .slice s1.l2.ad s1.l2.len s1.l2.cap] 60).keep hb
  have zb := BB.cells
  have R := (R.keep ((Below.refl _ _).alloc (Nat.le_refl _) (.cells #[.int .u64 s1.p.t2, .slice s1.l2.ad s1.l2.len s1.l2.cap] 60))).keep hb
  clear hb
  have zk := R.K.cells
  have zf := R.K.frozen
  have RN := (R.setK 4 (.int .u64 s1.p.t2)).setK 5 (.slice s1.l2.ad s1.l2.len s1.l2.cap)
  simp only [List.setIfInBounds_toArray, List.set_cons_succ, List.set_cons_zero] at RN
  have bk := R.K.lt
  clear BB
  go_wp2_with fail
  have R := RN
  clear RN zk zf bk zb
  obtain ⟨u3, hu3⟩ : ∃ y, y = (v2.setCell ⟨gk, 4, none⟩ (.int .u64 s1.p.t2)).setCell ⟨gk, 5, none⟩ (.slice s1.l2.ad s1.l2.len s1.l2.cap) := ⟨_, rfl⟩
  rw [← hu3] at R ⊢
  clear hu3
  rw [rounds_succ]
  have Q6 := R.T.rowX { s3 with p := { s3.p with t0 := 0, t1 := 0, t2 := s1.p.t2 }, l0 := nilS, l1 := nilS, l2 := s1.l2 }
  have Q7 := Q6.rowZ { s3 with p := { s3.p with t0 := 0, t1 := 0, t2 := s1.p.t2 }, l0 := nilS, l1 := nilS, l2 := s1.l2 }
  clear i0 i1 i2 e11 e12 e13 e14 e15 e16 hx h
  go_wp2_with (first | (refine wpList_load_row rfl 61 _ rfl gk rfl _ (#[(.int .u64 0), (.slice none 0 0), (.int .u64 0), (.slice none 0 0), (.int .u64 s1.p.t2), (.slice s1.l2.ad s1.l2.len s1.l2.cap)]) (0, 0) _ (by exact R.K) Try.underlying61 rfl (by kernel_rfl) ?_) | (refine Sub.wpList_store_sub rfl 61 _ _ rfl w.heap.size 11 #[(.int .u64 0), (.slice none 0 0), (.int .u64 0), (.slice none 0 0), (.int .u64 s1.p.t2), (.slice s1.l2.ad s1.l2.len s1.l2.cap)] rfl rfl 63 (wc s3) (wc { s3 with p := { s3.p with t0 := 0, t1 := 0, t2 := s1.p.t2 }, l0 := nilS, l1 := nilS, l2 := s1.l2 }) (by exact R.T.X) (by kernel_rfl) (Nat.le_of_ble_eq_true (by kernel_rfl)) (by kernel_rfl) (by kernel_rfl) ?_) | (refine wpList_load_row rfl 63 _ rfl (w.heap.size) rfl _ (wc { s3 with p := { s3.p with t0 := 0, t1 := 0, t2 := s1.p.t2 }, l0 := nilS, l1 := nilS, l2 := s1.l2 }) (0, 0) _ (by exact Q6.X) Try.underlying63 rfl (by kernel_rfl) ?_) | (refine wpList_store_row rfl 63 _ _ rfl (w.heap.size + 1) (wc { s3 with p := { s3.p with t0 := 0, t1 := 0, t2 := s1.p.t2 }, l0 := nilS, l1 := nilS, l2 := s1.l2 }) rfl rfl _ _ (by exact Q6.Z) (by kernel_rfl) (by kernel_rfl) (by kernel_rfl) ?_))
  refine bodyPost_ret (v := wv { s3 with p := { s3.p with t0 := 0, t1 := 0, t2 := s1.p.t2 }, l0 := nilS, l1 := nilS, l2 := s1.l2 }) ?_ rfl ⟨_, rfl, ?_, Q7.below⟩
  · exact results_cell_row (p := 4) (ty := 63) Try.results40 _ _ (w.heap.size + 1) 63 _ (0, 0) _ rfl Q7.Z Try.underlying63 rfl (by kernel_rfl)
  · have PE := (R.P.setRow_ty R.T.X (by decide) (by decide) (wc { s3 with p := { s3.p with t0 := 0, t1 := 0, t2 := s1.p.t2 }, l0 := nilS, l1 := nilS, l2 := s1.l2 })).setRow_ty Q6.Z (by decide) (by decide) (wc { s3 with p := { s3.p with t0 := 0, t1 := 0, t2 := s1.p.t2 }, l0 := nilS, l1 := nilS, l2 := s1.l2 })
    have AE := (R.A.setRow_ty R.T.X (by decide) (by decide) (wc { s3 with p := { s3.p with t0 := 0, t1 := 0, t2 := s1.p.t2 }, l0 := nilS, l1 := nilS, l2 := s1.l2 })).setRow_ty Q6.Z (by decide) (by decide) (wc { s3 with p := { s3.p with t0 := 0, t1 := 0, t2 := s1.p.t2 }, l0 := nilS, l1 := nilS, l2 := s1.l2 })
    unfold ripeS
    rw [H0.out, H1.out, H2.out]
    refine ⟨?_, PE.rk.rdF, Fresh.nil.rdF (t := 3), Fresh.nil.rdF (t := 3), AE.l2.rdF, ?_, PE.rd.rdF⟩
    · simp [PE.p, HP.out]
    · simpa using PE.hl.rdF
set_option maxRecDepth 10000 in
set_option maxHeartbeats 4000000 in
theorem ripe_yny (s : Wk) (x : St) (hx : Few 200 x) (e : Int) (he : e < 18446744073709551616) (w : World) (h : Lies w s x) (h0 : ripeB x.p.t0 e = true) (h1 : ripeB x.p.t1 e = false) (h2 : ripeB x.p.t2 e = true) :
    Calls Try.prog 40 #[wv s, .int .u64 e] w fun r w' => ∃ s', r = .returned (wv s') ∧ LiesF w.heap.size w' s' (ripeS x e) ∧ Below w.heap.size w w' := by
  have H0 := Lib.hid h0
  have H1 := Lib.hid h1
  have H2 := Lib.hid h2
  clear h0 h1 h2
  have HE := Lib.hid he
  clear he
  have e11 : ∀ s : Wk, (wc s)[11]? = some (.int .u64 s.p.t0) := fun _ => rfl
  have e12 : ∀ s : Wk, (wc s)[12]? = some (.slice s.l0.ad s.l0.len s.l0.cap) := fun _ => rfl
  have e13 : ∀ s : Wk, (wc s)[13]? = some (.int .u64 s.p.t1) := fun _ => rfl
  have e14 : ∀ s : Wk, (wc s)[14]? = some (.slice s.l1.ad s.l1.len s.l1.cap) := fun _ => rfl
  have e15 : ∀ s : Wk, (wc s)[15]? = some (.int .u64 s.p.t2) := fun _ => rfl
  have e16 : ∀ s : Wk, (wc s)[16]? = some (.slice s.l2.ad s.l2.len s.l2.cap) := fun _ => rfl
  have T0 := Two.start w s
  go_enter Try.func40, Try.ntmps40
  go_wp2_with (refine wpList_load_row rfl 63 _ rfl (w.heap.size) rfl _ (wc s) (0, 0) _ (by exact T0.X) Try.underlying63 rfl (by kernel_rfl) ?_)
  refine (copyWork s x (hx.mono (by omega)) _ (h.keep T0.below)).mono ?_
  rintro r w1 ⟨s1, rfl, A1, hb1⟩
  have T1 := T0.keep hb1
  have T2 := T1.rowX s1
  have PB := (A1.part).base (B' := w.heap.size) (by simp; omega)
  have P2 := PB.setRow_ty T1.X (by decide) (by decide) (wc s1)
  have HP := Lib.hid A1.p
  have x2 := T2.X.cells
  have b2 := T2.lt
  have i0 := bag_index0 s1
  have i1 := bag_index1 s1
  have i2 := bag_index2 s1
  have R : Rp w w.heap.size (w.heap.size + 1) w1.heap.size s1 x s1 x #[.int .u64 0, .slice none 0 0, .int .u64 0, .slice none 0 0, .int .u64 0, .slice none 0 0] ((w1.setRow w.heap.size (wc s1)).alloc (.cells #[.int .u64 0, .slice none 0 0, .int .u64 0, .slice none 0 0, .int .u64 0, .slice none 0 0] 61)) :=
    have hb : Below (w1.setRow w.heap.size (wc s1)).heap.size (w1.setRow w.heap.size (wc s1)) ((w1.setRow w.heap.size (wc s1)).alloc (.cells #[.int .u64 0, .slice none 0 0, .int .u64 0, .slice none 0 0, .int .u64 0, .slice none 0 0] 61)) := (Below.refl _ _).alloc (Nat.le_refl _) _
    ⟨T2.keep hb, by have := Bk.new (w1.setRow w.heap.size (wc s1)) #[.int .u64 0, .slice none 0 0, .int .u64 0, .slice none 0 0, .int .u64 0, .slice none 0 0] 61; simpa using this, by have := hb1.size; simp at this; omega, P2.keep hb, P2.keep hb⟩
  have x3 := R.T.X.cells
  clear T0 A1 hb1 PB x2
  go_wp2_with (refine wpList_store_row rfl 63 _ _ rfl (w.heap.size) (wc s1) rfl rfl _ _ (by exact T1.X) (by kernel_rfl) (by kernel_rfl) (by kernel_rfl) ?_)
  obtain ⟨u0, hu0⟩ : ∃ u0, u0 = (w1.setRow w.heap.size (wc s1)).alloc (.cells #[.int .u64 0, .slice none 0 0, .int .u64 0, .slice none 0 0, .int .u64 0, .slice none 0 0] 61) := ⟨_, rfl⟩
  rw [← hu0] at R ⊢
  obtain ⟨gk, hgk⟩ : ∃ g, g = w1.heap.size := ⟨_, rfl⟩
  rw [← hgk] at R ⊢
  clear hu0 hgk T1 T2 P2 b2 x3
  refine wp_loop_rounds 4 ?_
  rw [rounds_succ]
  go_wp2_with fail
  refine (isRipe (b := true) (by rw [HP.out]; exact H0.out) s1.l0 _ HE.out).mono ?_
  rintro r v0 ⟨rfl, hb⟩
  have BB := (Bk.new u0 #[.int .u64 s1.p.t0, .slice s1.l0.ad s1.l0.len s1.l0.cap] 60).keep hb
  have zb := BB.cells
  have R := (R.keep ((Below.refl _ _).alloc (Nat.le_refl _) (.cells #[.int .u64 s1.p.t0, .slice s1.l0.ad s1.l0.len s1.l0.cap] 60))).keep hb
  clear hb
  go_wp2_with (refine wpList_load_row rfl 63 _ rfl (w.heap.size) rfl _ (wc s1) (0, 0) _ (by exact R.T.X) Try.underlying63 rfl (by kernel_rfl) ?_)
  refine (rackHold s1 x (⟨by have := hx.rk; simp <;> omega, by have := hx.l0; simp <;> omega, by have := hx.l1; simp <;> omega, by have := hx.l2; simp <;> omega, by have := hx.hl; have := hx.l0; have := hx.l1; have := hx.l2; simp <;> omega, by have := hx.rd; simp <;> omega⟩) s1.l0 x.l0 (by have := hx.l0; omega) _ R.P.lies R.A.l0.reads).mono ?_
  rintro r q0 ⟨s2, rfl, ⟨_, _, _, _, _, O, A⟩, hb⟩
  have hz := R.T.below.size
  have PN : Part w.heap.size q0 s2 { x with hl := x.hl ++ x.l0 } := Part.base ⟨A.p, A.rk, A.l0, A.l1, A.l2, O, A.rd⟩ hz
  have R := R.keep hb
  have RN := R.rowX PN
  clear O A hb BB zb PN hz
  go_wp2_with (refine wpList_store_row rfl 63 _ _ rfl (w.heap.size) (wc s2) rfl rfl _ _ (by exact R.T.X) (by kernel_rfl) (by kernel_rfl) (by kernel_rfl) ?_)
  have R := RN
  clear RN
  obtain ⟨u1, hu1⟩ : ∃ y, y = q0.setRow w.heap.size (wc s2) := ⟨_, rfl⟩
  rw [← hu1] at R ⊢
  clear hu1
  rw [rounds_succ]
  go_wp2_with fail
  refine (isRipe (b := false) (by rw [HP.out]; exact H1.out) s1.l1 _ HE.out).mono ?_
  rintro r v1 ⟨rfl, hb⟩
  have BB := (Bk.new u1 #[.int .u64 s1.p.t1, .slice s1.l1.ad s1.l1.len s1.l1.cap] 60).keep hb
  have zb := BB.cells
  have R := (R.keep ((Below.refl _ _).alloc (Nat.le_refl _) (.cells #[.int .u64 s1.p.t1, .slice s1.l1.ad s1.l1.len s1.l1.cap] 60))).keep hb
  clear hb
  have zk := R.K.cells
  have zf := R.K.frozen
  have RN := (R.setK 2 (.int .u64 s1.p.t1)).setK 3 (.slice s1.l1.ad s1.l1.len s1.l1.cap)
  simp only [List.setIfInBounds_toArray, List.set_cons_succ, List.set_cons_zero] at RN
  have bk := R.K.lt
  clear BB
  go_wp2_with fail
  have R := RN
  clear RN zk zf bk zb
  obtain ⟨u2, hu2⟩ : ∃ y, y = (v1.setCell ⟨gk, 2, none⟩ (.int .u64 s1.p.t1)).setCell ⟨gk, 3, none⟩ (.slice s1.l1.ad s1.l1.len s1.l1.cap) := ⟨_, rfl⟩
  rw [← hu2] at R ⊢
  clear hu2
  rw [rounds_succ]
  go_wp2_with fail
  refine (isRipe (b := true) (by rw [HP.out]; exact H2.out) s1.l2 _ HE.out).mono ?_
  rintro r v2 ⟨rfl, hb⟩
  have BB := (Bk.new u2 #[.int .u64 s1.p.t2, .slice s1.l2.ad s1.l2.len s1.l2.cap] 60).keep hb
  have zb := BB.cells
  have R := (R.keep ((Below.refl _ _).alloc (Nat.le_refl _) (.cells #[.int .u64 s1.p.t2, .slice s1.l2.ad s1.l2.len s1.l2.cap] 60))).keep hb
  clear hb
  go_wp2_with (refine wpList_load_row rfl 63 _ rfl (w.heap.size) rfl _ (wc s2) (0, 0) _ (by exact R.T.X) Try.underlying63 rfl (by kernel_rfl) ?_)
  refine (rackHold s2 { x with hl := x.hl ++ x.l0 } (⟨by have := hx.rk; simp <;> omega, by have := hx.l0; simp <;> omega, by have := hx.l1; simp <;> omega, by have := hx.l2; simp <;> omega, by have := hx.hl; have := hx.l0; have := hx.l1; have := hx.l2; simp <;> omega, by have := hx.rd; simp <;> omega⟩) s1.l2 x.l2 (by have := hx.l2; omega) _ R.P.lies R.A.l2.reads).mono ?_
  rintro r q2 ⟨s4, rfl, ⟨_, _, _, _, _, O, A⟩, hb⟩
  have hz := R.T.below.size
  have PN : Part w.heap.size q2 s4 { x with hl := x.hl ++ x.l0 ++ x.l2 } := Part.base ⟨A.p, A.rk, A.l0, A.l1, A.l2, O, A.rd⟩ hz
  have R := R.keep hb
  have RN := R.rowX PN
  clear O A hb BB zb PN hz
  go_wp2_with (refine wpList_store_row rfl 63 _ _ rfl (w.heap.size) (wc s4) rfl rfl _ _ (by exact R.T.X) (by kernel_rfl) (by kernel_rfl) (by kernel_rfl) ?_)
  have R := RN
  clear RN
  obtain ⟨u3, hu3⟩ : ∃ y, y = q2.setRow w.heap.size (wc s4) := ⟨_, rfl⟩
  rw [← hu3] at R ⊢
  clear hu3
  rw [rounds_succ]
  have Q6 := R.T.rowX { s4 with p := { s4.p with t0 := 0, t1 := s1.p.t1, t2 := 0 }, l0 := nilS, l1 := s1.l1, l2 := nilS }
  have Q7 := Q6.rowZ { s4 with p := { s4.p with t0 := 0, t1 := s1.p.t1, t2 := 0 }, l0 := nilS, l1 := s1.l1, l2 := nilS }
  clear i0 i1 i2 e11 e12 e13 e14 e15 e16 hx h
  go_wp2_with (first | (refine wpList_load_row rfl 61 _ rfl gk rfl _ (#[(.int .u64 0), (.slice none 0 0), (.int .u64 s1.p.t1), (.slice s1.l1.ad s1.l1.len s1.l1.cap), (.int .u64 0), (.slice none 0 0)]) (0, 0) _ (by exact R.K) Try.underlying61 rfl (by kernel_rfl) ?_) | (refine Sub.wpList_store_sub rfl 61 _ _ rfl w.heap.size 11 #[(.int .u64 0), (.slice none 0 0), (.int .u64 s1.p.t1), (.slice s1.l1.ad s1.l1.len s1.l1.cap), (.int .u64 0), (.slice none 0 0)] rfl rfl 63 (wc s4) (wc { s4 with p := { s4.p with t0 := 0, t1 := s1.p.t1, t2 := 0 }, l0 := nilS, l1 := s1.l1, l2 := nilS }) (by exact R.T.X) (by kernel_rfl) (Nat.le_of_ble_eq_true (by kernel_rfl)) (by kernel_rfl) (by kernel_rfl) ?_) | (refine wpList_load_row rfl 63 _ rfl (w.heap.size) rfl _ (wc { s4 with p := { s4.p with t0 := 0, t1 := s1.p.t1, t2 := 0 }, l0 := nilS, l1 := s1.l1, l2 := nilS }) (0, 0) _ (by exact Q6.X) Try.underlying63 rfl (by kernel_rfl) ?_) | (refine wpList_store_row rfl 63 _ _ rfl (w.heap.size + 1) (wc { s4 with p := { s4.p with t0 := 0, t1 := s1.p.t1, t2 := 0 }, l0 := nilS, l1 := s1.l1, l2 := nilS }) rfl rfl _ _ (by exact Q6.Z) (by kernel_rfl) (by kernel_rfl) (by kernel_rfl) ?_))
  refine bodyPost_ret (v := wv { s4 with p := { s4.p with t0 := 0, t1 := s1.p.t1, t2 := 0 }, l0 := nilS, l1 := s1.l1, l2 := nilS }) ?_ rfl ⟨_, rfl, ?_, Q7.below⟩
  · exact results_cell_row (p := 4) (ty := 63) Try.results40 _ _ (w.heap.size + 1) 63 _ (0, 0) _ rfl Q7.Z Try.underlying63 rfl (by kernel_rfl)
  · have PE := (R.P.setRow_ty R.T.X (by decide) (by decide) (wc { s4 with p := { s4.p with t0 := 0, t1 := s1.p.t1, t2 := 0 }, l0 := nilS, l1 := s1.l1, l2 := nilS })).setRow_ty Q6.Z (by decide) (by decide) (wc { s4 with p := { s4.p with t0 := 0, t1 := s1.p.t1, t2 := 0 }, l0 := nilS, l1 := s1.l1, l2 := nilS })
    have AE := (R.A.setRow_ty R.T.X (by decide) (by decide) (wc { s4 with p := { s4.p with t0 := 0, t1 := s1.p.t1, t2 := 0 }, l0 := nilS, l1 := s1.l1, l2 := nilS })).setRow_ty Q6.Z (by decide) (by decide) (wc { s4 with p := { s4.p with t0 := 0, t1 := s1.p.t1, t2 := 0 }, l0 := nilS, l1 := s1.l1, l2 := nilS })
    unfold ripeS
    rw [H0.out, H1.out, H2.out]
    refine ⟨?_, PE.rk.rdF, Fresh.nil.rdF (t := 3), AE.l1.rdF, Fresh.nil.rdF (t := 3), ?_, PE.rd.rdF⟩
    · simp [PE.p, HP.out]
    · simpa using PE.hl.rdF
set_option maxRecDepth 10000 in
set_option maxHeartbeats 4000000 in
theorem ripe_ynn (s : Wk) (x : St) (hx : Few 200 x) (e : Int) (he : e < 18446744073709551616) (w : World) (h : Lies w s x) (h0 : ripeB x.p.t0 e = true) (h1 : ripeB x.p.t1 e = false) (h2 : ripeB x.p.t2 e = false) :
    Calls Try.prog 40 #[wv s, .int .u64 e] w fun r w' => ∃ s', r = .returned (wv s') ∧ LiesF w.heap.size w' s' (ripeS x e) ∧ Below w.heap.size w w' := by
  have H0 := Lib.hid h0
  have H1 := Lib.hid h1
  have H2 := Lib.hid h2
  clear h0 h1 h2
  have HE := Lib.hid he
  clear he
  have e11 : ∀ s : Wk, (wc s)[11]? = some (.int .u64 s.p.t0) := fun _ => rfl
  have e12 : ∀ s : Wk, (wc s)[12]? = some (.slice s.l0.ad s.l0.len s.l0.cap) := fun _ => rfl
  have e13 : ∀ s : Wk, (wc s)[13]? = some (.int .u64 s.p.t1) := fun _ => rfl
  have e14 : ∀ s : Wk, (wc s)[14]? = some (.slice s.l1.ad s.l1.len s.l1.cap) := fun _ => rfl
  have e15 : ∀ s : Wk, (wc s)[15]? = some (.int .u64 s.p.t2) := fun _ => rfl
  have e16 : ∀ s : Wk, (wc s)[16]? = some (.slice s.l2.ad s.l2.len s.l2.cap) := fun _ => rfl
  have T0 := Two.start w s
  go_enter Try.func40, Try.ntmps40
  go_wp2_with (refine wpList_load_row rfl 63 _ rfl (w.heap.size) rfl _ (wc s) (0, 0) _ (by exact T0.X) Try.underlying63 rfl (by kernel_rfl) ?_)
  refine (copyWork s x (hx.mono (by omega)) _ (h.keep T0.below)).mono ?_
  rintro r w1 ⟨s1, rfl, A1, hb1⟩
  have T1 := T0.keep hb1
  have T2 := T1.rowX s1
  have PB := (A1.part).base (B' := w.heap.size) (by simp; omega)
  have P2 := PB.setRow_ty T1.X (by decide) (by decide) (wc s1)
  have HP := Lib.hid A1.p
  have x2 := T2.X.cells
  have b2 := T2.lt
  have i0 := bag_index0 s1
  have i1 := bag_index1 s1
  have i2 := bag_index2 s1
  have R : Rp w w.heap.size (w.heap.size + 1) w1.heap.size s1 x s1 x #[.int .u64 0, .slice none 0 0, .int .u64 0, .slice none 0 0, .int .u64 0, .slice none 0 0] ((w1.setRow w.heap.size (wc s1)).alloc (.cells #[.int .u64 0, .slice none 0 0, .int .u64 0, .slice none 0 0, .int .u64 0, .slice none 0 0] 61)) :=
    have hb : Below (w1.setRow w.heap.size (wc s1)).heap.size (w1.setRow w.heap.size (wc s1)) ((w1.setRow w.heap.size (wc s1)).alloc (.cells #[.int .u64 0, .slice none 0 0, .int .u64 0, .slice none 0 0, .int .u64 0, .slice none 0 0] 61)) := (Below.refl _ _).alloc (Nat.le_refl _) _
    ⟨T2.keep hb, by have := Bk.new (w1.setRow w.heap.size (wc s1)) #[.int .u64 0, .slice none 0 0, .int .u64 0, .slice none 0 0, .int .u64 0, .slice none 0 0] 61; simpa using this, by have := hb1.size; simp at this; omega, P2.keep hb, P2.keep hb⟩
  have x3 := R.T.X.cells
  clear T0 A1 hb1 PB x2
  go_wp2_with (refine wpList_store_row rfl 63 _ _ rfl (w.heap.size) (wc s1) rfl rfl _ _ (by exact T1.X) (by kernel_rfl) (by kernel_rfl) (by kernel_rfl) ?_)
  obtain ⟨u0, hu0⟩ : ∃ u0, u0 = (w1.setRow w.heap.size (wc s1)).alloc (.cells #[.int .u64 0, .slice none 0 0, .int .u64 0, .slice none 0 0, .int .u64 0, .slice none 0 0] 61) := ⟨_, rfl⟩
  rw [← hu0] at R ⊢
  obtain ⟨gk, hgk⟩ : ∃ g, g = w1.heap.size := ⟨_, rfl⟩
  rw [← hgk] at R ⊢
  clear hu0 hgk T1 T2 P2 b2 x3
  refine wp_loop_rounds 4 ?_
  rw [rounds_succ]
  go_wp2_with fail
  refine (isRipe (b := true) (by rw [HP.out]; exact H0.out) s1.l0 _ HE.out).mono ?_
  rintro r v0 ⟨rfl, hb⟩
  have BB := (Bk.new u0 #[.int .u64 s1.p.t0, .slice s1.l0.ad s1.l0.len s1.l0.cap] 60).keep hb
  have zb := BB.cells
  have R := (R.keep ((Below.refl _ _).alloc (Nat.le_refl _) (.cells #[.int .u64 s1.p.t0, .slice s1.l0.ad s1.l0.len s1.l0.cap] 60))).keep hb
  clear hb
  go_wp2_with (refine wpList_load_row rfl 63 _ rfl (w.heap.size) rfl _ (wc s1) (0, 0) _ (by exact R.T.X) Try.underlying63 rfl (by kernel_rfl) ?_)
  refine (rackHold s1 x (⟨by have := hx.rk; simp <;> omega, by have := hx.l0; simp <;> omega, by have := hx.l1; simp <;> omega, by have := hx.l2; simp <;> omega, by have := hx.hl; have := hx.l0; have := hx.l1; have := hx.l2; simp <;> omega, by have := hx.rd; simp <;> omega⟩) s1.l0 x.l0 (by have := hx.l0; omega) _ R.P.lies R.A.l0.reads).mono ?_
  rintro r q0 ⟨s2, rfl, ⟨_, _, _, _, _, O, A⟩, hb⟩
  have hz := R.T.below.size
  have PN : Part w.heap.size q0 s2 { x with hl := x.hl ++ x.l0 } := Part.base ⟨A.p, A.rk, A.l0, A.l1, A.l2, O, A.rd⟩ hz
  have R := R.keep hb
  have RN := R.rowX PN
  clear O A hb BB zb PN hz
  go_wp2_with (refine wpList_store_row rfl 63 _ _ rfl (w.heap.size) (wc s2) rfl rfl _ _ (by exact R.T.X) (by kernel_rfl) (by kernel_rfl) (by kernel_rfl) ?_)
  have R := RN
  clear RN
  obtain ⟨u1, hu1⟩ : ∃ y, y = q0.setRow w.heap.size (wc s2) := ⟨_, rfl⟩
  rw [← hu1] at R ⊢
  clear hu1
  rw [rounds_succ]
  go_wp2_with fail
  refine (isRipe (b := false) (by rw [HP.out]; exact H1.out) s1.l1 _ HE.out).mono ?_
  rintro r v1 ⟨rfl, hb⟩
  have BB := (Bk.new u1 #[.int .u64 s1.p.t1, .slice s1.l1.ad s1.l1.len s1.l1.cap] 60).keep hb
  have zb := BB.cells
  have R := (R.keep ((Below.refl _ _).alloc (Nat.le_refl _) (.cells #[.int .u64 s1.p.t1, .slice s1.l1.ad s1.l1.len s1.l1.cap] 60))).keep hb
  clear hb
  have zk := R.K.cells
  have zf := R.K.frozen
  have RN := (R.setK 2 (.int .u64 s1.p.t1)).setK 3 (.slice s1.l1.ad s1.l1.len s1.l1.cap)
  simp only [List.setIfInBounds_toArray, List.set_cons_succ, List.set_cons_zero] at RN
  have bk := R.K.lt
  clear BB
  go_wp2_with fail
  have R := RN
  clear RN zk zf bk zb
  obtain ⟨u2, hu2⟩ : ∃ y, y = (v1.setCell ⟨gk, 2, none⟩ (.int .u64 s1.p.t1)).setCell ⟨gk, 3, none⟩ (.slice s1.l1.ad s1.l1.len s1.l1.cap) := ⟨_, rfl⟩
  rw [← hu2] at R ⊢
  clear hu2
  rw [rounds_succ]
  go_wp2_with fail
  refine (isRipe (b := false) (by rw [HP.out]; exact H2.out) s1.l2 _ HE.out).mono ?_
  rintro r v2 ⟨rfl, hb⟩
  have BB := (Bk.new u2 #[.int .u64 s1.p.t2, .slice s1.l2.ad s1.l2.len s1.l2.cap] 60).keep hb
  have zb := BB.cells
  have R := (R.keep ((Below.refl _ _).alloc (Nat.le_refl _) (.cells #[.int .u64 s1.p.t2, .slice s1.l2.ad s1.l2.len s1.l2.cap] 60))).keep hb
  clear hb
  have zk := R.K.cells
  have zf := R.K.frozen
  have RN := (R.setK 4 (.int .u64 s1.p.t2)).setK 5 (.slice s1.l2.ad s1.l2.len s1.l2.cap)
  simp only [List.setIfInBounds_toArray, List.set_cons_succ, List.set_cons_zero] at RN
  have bk := R.K.lt
  clear BB
  go_wp2_with fail
  have R := RN
  clear RN zk zf bk zb
  obtain ⟨u3, hu3⟩ : ∃ y, y = (v2.setCell ⟨gk, 4, none⟩ (.int .u64 s1.p.t2)).setCell ⟨gk, 5, none⟩ (.slice s1.l2.ad s1.l2.len s1.l2.cap) := ⟨_, rfl⟩
  rw [← hu3] at R ⊢
  clear hu3
  rw [rounds_succ]
  have Q6 := R.T.rowX { s2 with p := { s2.p with t0 := 0, t1 := s1.p.t1, t2 := s1.p.t2 }, l0 := nilS, l1 := s1.l1, l2 := s1.l2 }
  have Q7 := Q6.rowZ { s2 with p := { s2.p with t0 := 0, t1 := s1.p.t1, t2 := s1.p.t2 }, l0 := nilS, l1 := s1.l1, l2 := s1.l2 }
  clear i0 i1 i2 e11 e12 e13 e14 e15 e16 hx h
  go_wp2_with (first | (refine wpList_load_row rfl 61 _ rfl gk rfl _ (#[(.int .u64 0), (.slice none 0 0), (.int .u64 s1.p.t1), (.slice s1.l1.ad s1.l1.len s1.l1.cap), (.int .u64 s1.p.t2), (.slice s1.l2.ad s1.l2.len s1.l2.cap)]) (0, 0) _ (by exact R.K) Try.underlying61 rfl (by kernel_rfl) ?_) | (refine Sub.wpList_store_sub rfl 61 _ _ rfl w.heap.size 11 #[(.int .u64 0), (.slice none 0 0), (.int .u64 s1.p.t1), (.slice s1.l1.ad s1.l1.len s1.l1.cap), (.int .u64 s1.p.t2), (.slice s1.l2.ad s1.l2.len s1.l2.cap)] rfl rfl 63 (wc s2) (wc { s2 with p := { s2.p with t0 := 0, t1 := s1.p.t1, t2 := s1.p.t2 }, l0 := nilS, l1 := s1.l1, l2 := s1.l2 }) (by exact R.T.X) (by kernel_rfl) (Nat.le_of_ble_eq_true (by kernel_rfl)) (by kernel_rfl) (by kernel_rfl) ?_) | (refine wpList_load_row rfl 63 _ rfl (w.heap.size) rfl _ (wc { s2 with p := { s2.p with t0 := 0, t1 := s1.p.t1, t2 := s1.p.t2 }, l0 := nilS, l1 := s1.l1, l2 := s1.l2 }) (0, 0) _ (by exact Q6.X) Try.underlying63 rfl (by kernel_rfl) ?_) | (refine wpList_store_row rfl 63 _ _ rfl (w.heap.size + 1) (wc { s2 with p := { s2.p with t0 := 0, t1 := s1.p.t1, t2 := s1.p.t2 }, l0 := nilS, l1 := s1.l1, l2 := s1.l2 }) rfl rfl _ _ (by exact Q6.Z) (by kernel_rfl) (by kernel_rfl) (by kernel_rfl) ?_))
  refine bodyPost_ret (v := wv { s2 with p := { s2.p with t0 := 0, t1 := s1.p.t1, t2 := s1.p.t2 }, l0 := nilS, l1 := s1.l1, l2 := s1.l2 }) ?_ rfl ⟨_, rfl, ?_, Q7.below⟩
  · exact results_cell_row (p := 4) (ty := 63) Try.results40 _ _ (w.heap.size + 1) 63 _ (0, 0) _ rfl Q7.Z Try.underlying63 rfl (by kernel_rfl)
  · have PE := (R.P.setRow_ty R.T.X (by decide) (by decide) (wc { s2 with p := { s2.p with t0 := 0, t1 := s1.p.t1, t2 := s1.p.t2 }, l0 := nilS, l1 := s1.l1, l2 := s1.l2 })).setRow_ty Q6.Z (by decide) (by decide) (wc { s2 with p := { s2.p with t0 := 0, t1 := s1.p.t1, t2 := s1.p.t2 }, l0 := nilS, l1 := s1.l1, l2 := s1.l2 })
    have AE := (R.A.setRow_ty R.T.X (by decide) (by decide) (wc { s2 with p := { s2.p with t0 := 0, t1 := s1.p.t1, t2 := s1.p.t2 }, l0 := nilS, l1 := s1.l1, l2 := s1.l2 })).setRow_ty Q6.Z (by decide) (by decide) (wc { s2 with p := { s2.p with t0 := 0, t1 := s1.p.t1, t2 := s1.p.t2 }, l0 := nilS, l1 := s1.l1, l2 := s1.l2 })
    unfold ripeS
    rw [H0.out, H1.out, H2.out]
    refine ⟨?_, PE.rk.rdF, Fresh.nil.rdF (t := 3), AE.l1.rdF, AE.l2.rdF, ?_, PE.rd.rdF⟩
    · simp [PE.p, HP.out]
    · simpa using PE.hl.rdF
set_option maxRecDepth 10000 in
set_option maxHeartbeats 4000000 in
theorem ripe_nyy (s : Wk) (x : St) (hx : Few 200 x) (e : Int) (he : e < 18446744073709551616) (w : World) (h : Lies w s x) (h0 : ripeB x.p.t0 e = false) (h1 : ripeB x.p.t1 e = true) (h2 : ripeB x.p.t2 e = true) :
    Calls Try.prog 40 #[wv s, .int .u64 e] w fun r w' => ∃ s', r = .returned (wv s') ∧ LiesF w.heap.size w' s' (ripeS x e) ∧ Below w.heap.size w w' := by
  have H0 := Lib.hid h0
  have H1 := Lib.hid h1
  have H2 := Lib.hid h2
  clear h0 h1 h2
  have HE := Lib.hid he
  clear he
  have e11 : ∀ s : Wk, (wc s)[11]? = some (.int .u64 s.p.t0) := fun _ => rfl
  have e12 : ∀ s : Wk, (wc s)[12]? = some (.slice s.l0.ad s.l0.len s.l0.cap) := fun _ => rfl
  have e13 : ∀ s : Wk, (wc s)[13]? = some (.int .u64 s.p.t1) := fun _ => rfl
  have e14 : ∀ s : Wk, (wc s)[14]? = some (.slice s.l1.ad s.l1.len s.l1.cap) := fun _ => rfl
  have e15 : ∀ s : Wk, (wc s)[15]? = some (.int .u64 s.p.t2) := fun _ => rfl
  have e16 : ∀ s : Wk, (wc s)[16]? = some (.slice s.l2.ad s.l2.len s.l2.cap) := fun _ => rfl
  have T0 := Two.start w s
  go_enter Try.func40, Try.ntmps40
  go_wp2_with (refine wpList_load_row rfl 63 _ rfl (w.heap.size) rfl _ (wc s) (0, 0) _ (by exact T0.X) Try.underlying63 rfl (by kernel_rfl) ?_)
  refine (copyWork s x (hx.mono (by omega)) _ (h.keep T0.below)).mono ?_
  rintro r w1 ⟨s1, rfl, A1, hb1⟩
  have T1 := T0.keep hb1
  have T2 := T1.rowX s1
  have PB := (A1.part).base (B' := w.heap.size) (by simp; omega)
  have P2 := PB.setRow_ty T1.X (by decide) (by decide) (wc s1)
  have HP := Lib.hid A1.p
  have x2 := T2.X.cells
  have b2 := T2.lt
  have i0 := bag_index0 s1
  have i1 := bag_index1 s1
  have i2 := bag_index2 s1
  have R : Rp w w.heap.size (w.heap.size + 1) w1.heap.size s1 x s1 x #[.int .u64 0, .slice none 0 0, .int .u64 0, .slice none 0 0, .int .u64 0, .slice none 0 0] ((w1.setRow w.heap.size (wc s1)).alloc (.cells #[.int .u64 0, .slice none 0 0, .int .u64 0, .slice none 0 0, .int .u64 0, .slice none 0 0] 61)) :=
    have hb : Below (w1.setRow w.heap.size (wc s1)).heap.size (w1.setRow w.heap.size (wc s1)) ((w1.setRow w.heap.size (wc s1)).alloc (.cells #[.int .u64 0, .slice none 0 0, .int .u64 0, .slice none 0 0, .int .u64 0, .slice none 0 0] 61)) := (Below.refl _ _).alloc (Nat.le_refl _) _
    ⟨T2.keep hb, by have := Bk.new (w1.setRow w.heap.size (wc s1)) #[.int .u64 0, .slice none 0 0, .int .u64 0, .slice none 0 0, .int .u64 0, .slice none 0 0] 61; simpa using this, by have := hb1.size; simp at this; omega, P2.keep hb, P2.keep hb⟩
  have x3 := R.T.X.cells
  clear T0 A1 hb1 PB x2
  go_wp2_with (refine wpList_store_row rfl 63 _ _ rfl (w.heap.size) (wc s1) rfl rfl _ _ (by exact T1.X) (by kernel_rfl) (by kernel_rfl) (by kernel_rfl) ?_)
  obtain ⟨u0, hu0⟩ : ∃ u0, u0 = (w1.setRow w.heap.size (wc s1)).alloc (.cells #[.int .u64 0, .slice none 0 0, .int .u64 0, .slice none 0 0, .int .u64 0, .slice none 0 0] 61) := ⟨_, rfl⟩
  rw [← hu0] at R ⊢
  obtain ⟨gk, hgk⟩ : ∃ g, g = w1.heap.size := ⟨_, rfl⟩
  rw [← hgk] at R ⊢
  clear hu0 hgk T1 T2 P2 b2 x3
  refine wp_loop_rounds 4 ?_
  rw [rounds_succ]
  go_wp2_with fail
  refine (isRipe (b := false) (by rw [HP.out]; exact H0.out) s1.l0 _ HE.out).mono ?_
  rintro r v0 ⟨rfl, hb⟩
  have BB := (Bk.new u0 #[.int .u64 s1.p.t0, .slice s1.l0.ad s1.l0.len s1.l0.cap] 60).keep hb
  have zb := BB.cells
  have R := (R.keep ((Below.refl _ _).alloc (Nat.le_refl _) (.cells #[.int .u64 s1.p.t0, .slice s1.l0.ad s1.l0.len s1.l0.cap] 60))).keep hb
  clear hb
  have zk := R.K.cells
  have zf := R.K.frozen
  have RN := (R.setK 0 (.int .u64 s1.p.t0)).setK 1 (.slice s1.l0.ad s1.l0.len s1.l0.cap)
  simp only [List.setIfInBounds_toArray, List.set_cons_succ, List.set_cons_zero] at RN
  have bk := R.K.lt
  clear BB
  go_wp2_with fail
  have R := RN
  clear RN zk zf bk zb
  obtain ⟨u1, hu1⟩ : ∃ y, y = (v0.setCell ⟨gk, 0, none⟩ (.int .u64 s1.p.t0)).setCell ⟨gk, 1, none⟩ (.slice s1.l0.ad s1.l0.len s1.l0.cap) := ⟨_, rfl⟩
  rw [← hu1] at R ⊢
  clear hu1
  rw [rounds_succ]
  go_wp2_with fail
  refine (isRipe (b := true) (by rw [HP.out]; exact H1.out) s1.l1 _ HE.out).mono ?_
  rintro r v1 ⟨rfl, hb⟩
  have BB := (Bk.new u1 #[.int .u64 s1.p.t1, .slice s1.l1.ad s1.l1.len s1.l1.cap] 60).keep hb
  have zb := BB.cells
  have R := (R.keep ((Below.refl _ _).alloc (Nat.le_refl _) (.cells #[.int .u64 s1.p.t1, .slice s1.l1.ad s1.l1.len s1.l1.cap] 60))).keep hb
  clear hb
  go_wp2_with (refine wpList_load_row rfl 63 _ rfl (w.heap.size) rfl _ (wc s1) (0, 0) _ (by exact R.T.X) Try.underlying63 rfl (by kernel_rfl) ?_)
  refine (rackHold s1 x (⟨by have := hx.rk; simp <;> omega, by have := hx.l0; simp <;> omega, by have := hx.l1; simp <;> omega, by have := hx.l2; simp <;> omega, by have := hx.hl; have := hx.l0; have := hx.l1; have := hx.l2; simp <;> omega, by have := hx.rd; simp <;> omega⟩) s1.l1 x.l1 (by have := hx.l1; omega) _ R.P.lies R.A.l1.reads).mono ?_
  rintro r q1 ⟨s3, rfl, ⟨_, _, _, _, _, O, A⟩, hb⟩
  have hz := R.T.below.size
  have PN : Part w.heap.size q1 s3 { x with hl := x.hl ++ x.l1 } := Part.base ⟨A.p, A.rk, A.l0, A.l1, A.l2, O, A.rd⟩ hz
  have R := R.keep hb
  have RN := R.rowX PN
  clear O A hb BB zb PN hz
  go_wp2_with (refine wpList_store_row rfl 63 _ _ rfl (w.heap.size) (wc s3) rfl rfl _ _ (by exact R.T.X) (by kernel_rfl) (by kernel_rfl) (by kernel_rfl) ?_)
  have R := RN
  clear RN
  obtain ⟨u2, hu2⟩ : ∃ y, y = q1.setRow w.heap.size (wc s3) := ⟨_, rfl⟩
  rw [← hu2] at R ⊢
  clear hu2
  rw [rounds_succ]
  go_wp2_with fail
  refine (isRipe (b := true) (by rw [HP.out]; exact H2.out) s1.l2 _ HE.out).mono ?_
  rintro r v2 ⟨rfl, hb⟩
  have BB := (Bk.new u2 #[.int .u64 s1.p.t2, .slice s1.l2.ad s1.l2.len s1.l2.cap] 60).keep hb
  have zb := BB.cells
  have R := (R.keep ((Below.refl _ _).alloc (Nat.le_refl _) (.cells #[.int .u64 s1.p.t2, .slice s1.l2.ad s1.l2.len s1.l2.cap] 60))).keep hb
  clear hb
  go_wp2_with (refine wpList_load_row rfl 63 _ rfl (w.heap.size) rfl _ (wc s3) (0, 0) _ (by exact R.T.X) Try.underlying63 rfl (by kernel_rfl) ?_)
  refine (rackHold s3 { x with hl := x.hl ++ x.l1 } (⟨by have := hx.rk; simp <;> omega, by have := hx.l0; simp <;> omega, by have := hx.l1; simp <;> omega, by have := hx.l2; simp <;> omega, by have := hx.hl; have := hx.l0; have := hx.l1; have := hx.l2; simp <;> omega, by have := hx.rd; simp <;> omega⟩) s1.l2 x.l2 (by have := hx.l2; omega) _ R.P.lies R.A.l2.reads).mono ?_
  rintro r q2 ⟨s4, rfl, ⟨_, _, _, _, _, O, A⟩, hb⟩
  have hz := R.T.below.size
  have PN : Part w.heap.size q2 s4 { x with hl := x.hl ++ x.l1 ++ x.l2 } := Part.base ⟨A.p, A.rk, A.l0, A.l1, A.l2, O, A.rd⟩ hz
  have R := R.keep hb
  have RN := R.rowX PN
  clear O A hb BB zb PN hz
  go_wp2_with (refine wpList_store_row rfl 63 _ _ rfl (w.heap.size) (wc s4) rfl rfl _ _ (by exact R.T.X) (by kernel_rfl) (by kernel_rfl) (by kernel_rfl) ?_)
  have R := RN
  clear RN
  obtain ⟨u3, hu3⟩ : ∃ y, y = q2.setRow w.heap.size (wc s4) := ⟨_, rfl⟩
  rw [← hu3] at R ⊢
  clear hu3
  rw [rounds_succ]
  have Q6 := R.T.rowX { s4 with p := { s4.p with t0 := s1.p.t0, t1 := 0, t2 := 0 }, l0 := s1.l0, l1 := nilS, l2 := nilS }
  have Q7 := Q6.rowZ { s4 with p := { s4.p with t0 := s1.p.t0, t1 := 0, t2 := 0 }, l0 := s1.l0, l1 := nilS, l2 := nilS }
  clear i0 i1 i2 e11 e12 e13 e14 e15 e16 hx h
  go_wp2_with (first | (refine wpList_load_row rfl 61 _ rfl gk rfl _ (#[(.int .u64 s1.p.t0), (.slice s1.l0.ad s1.l0.len s1.l0.cap), (.int .u64 0), (.slice none 0 0), (.int .u64 0), (.slice none 0 0)]) (0, 0) _ (by exact R.K) Try.underlying61 rfl (by kernel_rfl) ?_) | (refine Sub.wpList_store_sub rfl 61 _ _ rfl w.heap.size 11 #[(.int .u64 s1.p.t0), (.slice s1.l0.ad s1.l0.len s1.l0.cap), (.int .u64 0), (.slice none 0 0), (.int .u64 0), (.slice none 0 0)] rfl rfl 63 (wc s4) (wc { s4 with p := { s4.p with t0 := s1.p.t0, t1 := 0, t2 := 0 }, l0 := s1.l0, l1 := nilS, l2 := nilS }) (by exact R.T.X) (by kernel_rfl) (Nat.le_of_ble_eq_true (by kernel_rfl)) (by kernel_rfl) (by kernel_rfl) ?_) | (refine wpList_load_row rfl 63 _ rfl (w.heap.size) rfl _ (wc { s4 with p := { s4.p with t0 := s1.p.t0, t1 := 0, t2 := 0 }, l0 := s1.l0, l1 := nilS, l2 := nilS }) (0, 0) _ (by exact Q6.X) Try.underlying63 rfl (by kernel_rfl) ?_) | (refine wpList_store_row rfl 63 _ _ rfl (w.heap.size + 1) (wc { s4 with p := { s4.p with t0 := s1.p.t0, t1 := 0, t2 := 0 }, l0 := s1.l0, l1 := nilS, l2 := nilS }) rfl rfl _ _ (by exact Q6.Z) (by kernel_rfl) (by kernel_rfl) (by kernel_rfl) ?_))
  refine bodyPost_ret (v := wv { s4 with p := { s4.p with t0 := s1.p.t0, t1 := 0, t2 := 0 }, l0 := s1.l0, l1 := nilS, l2 := nilS }) ?_ rfl ⟨_, rfl, ?_, Q7.below⟩
  · exact results_cell_row (p := 4) (ty := 63) Try.results40 _ _ (w.heap.size + 1) 63 _ (0, 0) _ rfl Q7.Z Try.underlying63 rfl (by kernel_rfl)
  · have PE := (R.P.setRow_ty R.T.X (by decide) (by decide) (wc { s4 with p := { s4.p with t0 := s1.p.t0, t1 := 0, t2 := 0 }, l0 := s1.l0, l1 := nilS, l2 := nilS })).setRow_ty Q6.Z (by decide) (by decide) (wc { s4 with p := { s4.p with t0 := s1.p.t0, t1 := 0, t2 := 0 }, l0 := s1.l0, l1 := nilS, l2 := nilS })
    have AE := (R.A.setRow_ty R.T.X (by decide) (by decide) (wc { s4 with p := { s4.p with t0 := s1.p.t0, t1 := 0, t2 := 0 }, l0 := s1.l0, l1 := nilS, l2 := nilS })).setRow_ty Q6.Z (by decide) (by decide) (wc { s4 with p := { s4.p with t0 := s1.p.t0, t1 := 0, t2 := 0 }, l0 := s1.l0, l1 := nilS, l2 := nilS })
    unfold ripeS
    rw [H0.out, H1.out, H2.out]
    refine ⟨?_, PE.rk.rdF, AE.l0.rdF, Fresh.nil.rdF (t := 3), Fresh.nil.rdF (t := 3), ?_, PE.rd.rdF⟩
    · simp [PE.p, HP.out]
    · simpa using PE.hl.rdF
set_option maxRecDepth 10000 in
set_option maxHeartbeats 4000000 in
theorem ripe_nyn (s : Wk) (x : St) (hx : Few 200 x) (e : Int) (he : e < 18446744073709551616) (w : World) (h : Lies w s x) (h0 : ripeB x.p.t0 e = false) (h1 : ripeB x.p.t1 e = true) (h2 : ripeB x.p.t2 e = false) :
    Calls Try.prog 40 #[wv s, .int .u64 e] w fun r w' => ∃ s', r = .returned (wv s') ∧ LiesF w.heap.size w' s' (ripeS x e) ∧ Below w.heap.size w w' := by
  have H0 := Lib.hid h0
  have H1 := Lib.hid h1
  have H2 := Lib.hid h2
  clear h0 h1 h2
  have HE := Lib.hid he
  clear he
  have e11 : ∀ s : Wk, (wc s)[11]? = some (.int .u64 s.p.t0) := fun _ => rfl
  have e12 : ∀ s : Wk, (wc s)[12]? = some (.slice s.l0.ad s.l0.len s.l0.cap) := fun _ => rfl
  have e13 : ∀ s : Wk, (wc s)[13]? = some (.int .u64 s.p.t1) := fun _ => rfl
  have e14 : ∀ s : Wk, (wc s)[14]? = some (.slice s.l1.ad s.l1.len s.l1.cap) := fun _ => rfl
  have e15 : ∀ s : Wk, (wc s)[15]? = some (.int .u64 s.p.t2) := fun _ => rfl
  have e16 : ∀ s : Wk, (wc s)[16]? = some (.slice s.l2.ad s.l2.len s.l2.cap) := fun _ => rfl
  have T0 := Two.start w s
  go_enter Try.func40, Try.ntmps40
  go_wp2_with (refine wpList_load_row rfl 63 _ rfl (w.heap.size) rfl _ (wc s) (0, 0) _ (by exact T0.X) Try.underlying63 rfl (by kernel_rfl) ?_)
  refine (copyWork s x (hx.mono (by omega)) _ (h.keep T0.below)).mono ?_
  rintro r w1 ⟨s1, rfl, A1, hb1⟩
  have T1 := T0.keep hb1
  have T2 := T1.rowX s1
  have PB := (A1.part).base (B' := w.heap.size) (by simp; omega)
  have P2 := PB.setRow_ty T1.X (by decide) (by decide) (wc s1)
  have HP := Lib.hid A1.p
  have x2 := T2.X.cells
  have b2 := T2.lt
  have i0 := bag_index0 s1
  have i1 := bag_index1 s1
  have i2 := bag_index2 s1
  have R : Rp w w.heap.size (w.heap.size + 1) w1.heap.size s1 x s1 x #[.int .u64 0, .slice none 0 0, .int .u64 0, .slice none 0 0, .int .u64 0, .slice none 0 0] ((w1.setRow w.heap.size (wc s1)).alloc (.cells #[.int .u64 0, .slice none 0 0, .int .u64 0, .slice none 0 0, .int .u64 0, .slice none 0 0] 61)) :=
    have hb : Below (w1.setRow w.heap.size (wc s1)).heap.size (w1.setRow w.heap.size (wc s1)) ((w1.setRow w.heap.size (wc s1)).alloc (.cells #[.int .u64 0, .slice none 0 0, .int .u64 0, .slice none 0 0, .int .u64 0, .slice none 0 0] 61)) := (Below.refl _ _).alloc (Nat.le_refl _) _
    ⟨T2.keep hb, by have := Bk.new (w1.setRow w.heap.size (wc s1)) #[.int .u64 0, .slice none 0 0, .int .u64 0, .slice none 0 0, .int .u64 0, .slice none 0 0] 61; simpa using this, by have := hb1.size; simp at this; omega, P2.keep hb, P2.keep hb⟩
  have x3 := R.T.X.cells
  clear T0 A1 hb1 PB x2
  go_wp2_with (refine wpList_store_row rfl 63 _ _ rfl (w.heap.size) (wc s1) rfl rfl _ _ (by exact T1.X) (by kernel_rfl) (by kernel_rfl) (by kernel_rfl) ?_)
  obtain ⟨u0, hu0⟩ : ∃ u0, u0 = (w1.setRow w.heap.size (wc s1)).alloc (.cells #[.int .u64 0, .slice none 0 0, .int .u64 0, .slice none 0 0, .int .u64 0, .slice none 0 0] 61) := ⟨_, rfl⟩
  rw [← hu0] at R ⊢
  obtain ⟨gk, hgk⟩ : ∃ g, g = w1.heap.size := ⟨_, rfl⟩
  rw [← hgk] at R ⊢
  clear hu0 hgk T1 T2 P2 b2 x3
  refine wp_loop_rounds 4 ?_
  rw [rounds_succ]
  go_wp2_with fail
  refine (isRipe (b := false) (by rw [HP.out]; exact H0.out) s1.l0 _ HE.out).mono ?_
  rintro r v0 ⟨rfl, hb⟩
  have BB := (Bk.new u0 #[.int .u64 s1.p.t0, .slice s1.l0.ad s1.l0.len s1.l0.cap] 60).keep hb
  have zb := BB.cells
  have R := (R.keep ((Below.refl _ _).alloc (Nat.le_refl _) (.cells #[.int .u64 s1.p.t0, .slice s1.l0.ad s1.l0.len s1.l0.cap] 60))).keep hb
  clear hb
  have zk := R.K.cells
  have zf := R.K.frozen
  have RN := (R.setK 0 (.int .u64 s1.p.t0)).setK 1 (.slice s1.l0.ad s1.l0.len s1.l0.cap)
  simp only [List.setIfInBounds_toArray, List.set_cons_succ, List.set_cons_zero] at RN
  have bk := R.K.lt
  clear BB
  go_wp2_with fail
  have R := RN
  clear RN zk zf bk zb
  obtain ⟨u1, hu1⟩ : ∃ y, y = (v0.setCell ⟨gk, 0, none⟩ (.int .u64 s1.p.t0)).setCell ⟨gk, 1, none⟩ (.slice s1.l0.ad s1.l0.len s1.l0.cap) := ⟨_, rfl⟩
  rw [← hu1] at R ⊢
  clear hu1
  rw [rounds_succ]
  go_wp2_with fail
  refine (isRipe (b := true) (by rw [HP.out]; exact H1.out) s1.l1 _ HE.out).mono ?_
  rintro r v1 ⟨rfl, hb⟩
  have BB := (Bk.new u1 #[.int .u64 s1.p.t1, .slice s1.l1.ad s1.l1.len s1.l1.cap] 60).keep hb
  have zb := BB.cells
  have R := (R.keep ((Below.refl _ _).alloc (Nat.le_refl _) (.cells #[.int .u64 s1.p.t1, .slice s1.l1.ad s1.l1.len s1.l1.cap] 60))).keep hb
  clear hb
  go_wp2_with (refine wpList_load_row rfl 63 _ rfl (w.heap.size) rfl _ (wc s1) (0, 0) _ (by exact R.T.X) Try.underlying63 rfl (by kernel_rfl) ?_)
  refine (rackHold s1 x (⟨by have := hx.rk; simp <;> omega, by have := hx.l0; simp <;> omega, by have := hx.l1; simp <;> omega, by have := hx.l2; simp <;> omega, by have := hx.hl; have := hx.l0; have := hx.l1; have := hx.l2; simp <;> omega, by have := hx.rd; simp <;> omega⟩) s1.l1 x.l1 (by have := hx.l1; omega) _ R.P.lies R.A.l1.reads).mono ?_
  rintro r q1 ⟨s3, rfl, ⟨_, _, _, _, _, O, A⟩, hb⟩
  have hz := R.T.below.size
  have PN : Part w.heap.size q1 s3 { x with hl := x.hl ++ x.l1 } := Part.base ⟨A.p, A.rk, A.l0, A.l1, A.l2, O, A.rd⟩ hz
  have R := R.keep hb
  have RN := R.rowX PN
  clear O A hb BB zb PN hz
  go_wp2_with (refine wpList_store_row rfl 63 _ _ rfl (w.heap.size) (wc s3) rfl rfl _ _ (by exact R.T.X) (by kernel_rfl) (by kernel_rfl) (by kernel_rfl) ?_)
  have R := RN
  clear RN
  obtain ⟨u2, hu2⟩ : ∃ y, y = q1.setRow w.heap.size (wc s3) := ⟨_, rfl⟩
  rw [← hu2] at R ⊢
  clear hu2
  rw [rounds_succ]
  go_wp2_with fail
  refine (isRipe (b := false) (by rw [HP.out]; exact H2.out) s1.l2 _ HE.out).mono ?_
  rintro r v2 ⟨rfl, hb⟩
  have BB := (Bk.new u2 #[.int .u64 s1.p.t2, .slice s1.l2.ad s1.l2.len s1.l2.cap] 60).keep hb
  have zb := BB.cells
  have R := (R.keep ((Below.refl _ _).alloc (Nat.le_refl _) (.cells #[.int .u64 s1.p.t2, .slice s1.l2.ad s1.l2.len s1.l2.cap] 60))).keep hb
  clear hb
  have zk := R.K.cells
  have zf := R.K.frozen
  have RN := (R.setK 4 (.int .u64 s1.p.t2)).setK 5 (.slice s1.l2.ad s1.l2.len s1.l2.cap)
  simp only [List.setIfInBounds_toArray, List.set_cons_succ, List.set_cons_zero] at RN
  have bk := R.K.lt
  clear BB
  go_wp2_with fail
  have R := RN
  clear RN zk zf bk zb
  obtain ⟨u3, hu3⟩ : ∃ y, y = (v2.setCell ⟨gk, 4, none⟩ (.int .u64 s1.p.t2)).setCell ⟨gk, 5, none⟩ (.slice s1.l2.ad s1.l2.len s1.l2.cap) := ⟨_, rfl⟩
  rw [← hu3] at R ⊢
  clear hu3
  rw [rounds_succ]
  have Q6 := R.T.rowX { s3 with p := { s3.p with t0 := s1.p.t0, t1 := 0, t2 := s1.p.t2 }, l0 := s1.l0, l1 := nilS, l2 := s1.l2 }
  have Q7 := Q6.rowZ { s3 with p := { s3.p with t0 := s1.p.t0, t1 := 0, t2 := s1.p.t2 }, l0 := s1.l0, l1 := nilS, l2 := s1.l2 }
  clear i0 i1 i2 e11 e12 e13 e14 e15 e16 hx h
  go_wp2_with (first | (refine wpList_load_row rfl 61 _ rfl gk rfl _ (#[(.int .u64 s1.p.t0), (.slice s1.l0.ad s1.l0.len s1.l0.cap), (.int .u64 0), (.slice none 0 0), (.int .u64 s1.p.t2), (.slice s1.l2.ad s1.l2.len s1.l2.cap)]) (0, 0) _ (by exact R.K) Try.underlying61 rfl (by kernel_rfl) ?_) | (refine Sub.wpList_store_sub rfl 61 _ _ rfl w.heap.size 11 #[(.int .u64 s1.p.t0), (.slice s1.l0.ad s1.l0.len s1.l0.cap), (.int .u64 0), (.slice none 0 0), (.int .u64 s1.p.t2), (.slice s1.l2.ad s1.l2.len s1.l2.cap)] rfl rfl 63 (wc s3) (wc { s3 with p := { s3.p with t0 := s1.p.t0, t1 := 0, t2 := s1.p.t2 }, l0 := s1.l0, l1 := nilS, l2 := s1.l2 }) (by exact R.T.X) (by kernel_rfl) (Nat.le_of_ble_eq_true (by kernel_rfl)) (by kernel_rfl) (by kernel_rfl) ?_) | (refine wpList_load_row rfl 63 _ rfl (w.heap.size) rfl _ (wc { s3 with p := { s3.p with t0 := s1.p.t0, t1 := 0, t2 := s1.p.t2 }, l0 := s1.l0, l1 := nilS, l2 := s1.l2 }) (0, 0) _ (by exact Q6.X) Try.underlying63 rfl (by kernel_rfl) ?_) | (refine wpList_store_row rfl 63 _ _ rfl (w.heap.size + 1) (wc { s3 with p := { s3.p with t0 := s1.p.t0, t1 := 0, t2 := s1.p.t2 }, l0 := s1.l0, l1 := nilS, l2 := s1.l2 }) rfl rfl _ _ (by exact Q6.Z) (by kernel_rfl) (by kernel_rfl) (by kernel_rfl) ?_))
  refine bodyPost_ret (v := wv { s3 with p := { s3.p with t0 := s1.p.t0, t1 := 0, t2 := s1.p.t2 }, l0 := s1.l0, l1 := nilS, l2 := s1.l2 }) ?_ rfl ⟨_, rfl, ?_, Q7.below⟩
  · exact results_cell_row (p := 4) (ty := 63) Try.results40 _ _ (w.heap.size + 1) 63 _ (0, 0) _ rfl Q7.Z Try.underlying63 rfl (by kernel_rfl)
  · have PE := (R.P.setRow_ty R.T.X (by decide) (by decide) (wc { s3 with p := { s3.p with t0 := s1.p.t0, t1 := 0, t2 := s1.p.t2 }, l0 := s1.l0, l1 := nilS, l2 := s1.l2 })).setRow_ty Q6.Z (by decide) (by decide) (wc { s3 with p := { s3.p with t0 := s1.p.t0, t1 := 0, t2 := s1.p.t2 }, l0 := s1.l0, l1 := nilS, l2 := s1.l2 })
    have AE := (R.A.setRow_ty R.T.X (by decide) (by decide) (wc { s3 with p := { s3.p with t0 := s1.p.t0, t1 := 0, t2 := s1.p.t2 }, l0 := s1.l0, l1 := nilS, l2 := s1.l2 })).setRow_ty Q6.Z (by decide) (by decide) (wc { s3 with p := { s3.p with t0 := s1.p.t0, t1 := 0, t2 := s1.p.t2 }, l0 := s1.l0, l1 := nilS, l2 := s1.l2 })
    unfold ripeS
    rw [H0.out, H1.out, H2.out]
    refine ⟨?_, PE.rk.rdF, AE.l0.rdF, Fresh.nil.rdF (t := 3), AE.l2.rdF, ?_, PE.rd.rdF⟩
    · simp [PE.p, HP.out]
    · simpa using PE.hl.rdF
set_option maxRecDepth 10000 in
set_option maxHeartbeats 4000000 in
theorem ripe_nny (s : Wk) (x : St) (hx : Few 200 x) (e : Int) (he : e < 18446744073709551616) (w : World) (h : Lies w s x) (h0 : ripeB x.p.t0 e = false) (h1 : ripeB x.p.t1 e = false) (h2 : ripeB x.p.t2 e = true) :
    Calls Try.prog 40 #[wv s, .int .u64 e] w fun r w' => ∃ s', r = .returned (wv s') ∧ LiesF w.heap.size w' s' (ripeS x e) ∧ Below w.heap.size w w' := by
  have H0 := Lib.hid h0
  have H1 := Lib.hid h1
  have H2 := Lib.hid h2
  clear h0 h1 h2
  have HE := Lib.hid he
  clear he
  have e11 : ∀ s : Wk, (wc s)[11]? = some (.int .u64 s.p.t0) := fun _ => rfl
  have e12 : ∀ s : Wk, (wc s)[12]? = some (.slice s.l0.ad s.l0.len s.l0.cap) := fun _ => rfl
  have e13 : ∀ s : Wk, (wc s)[13]? = some (.int .u64 s.p.t1) := fun _ => rfl
  have e14 : ∀ s : Wk, (wc s)[14]? = some (.slice s.l1.ad s.l1.len s.l1.cap) := fun _ => rfl
  have e15 : ∀ s : Wk, (wc s)[15]? = some (.int .u64 s.p.t2) := fun _ => rfl
  have e16 : ∀ s : Wk, (wc s)[16]? = some (.slice s.l2.ad s.l2.len s.l2.cap) := fun _ => rfl
  have T0 := Two.start w s
  go_enter Try.func40, Try.ntmps40
  go_wp2_with (refine wpList_load_row rfl 63 _ rfl (w.heap.size) rfl _ (wc s) (0, 0) _ (by exact T0.X) Try.underlying63 rfl (by kernel_rfl) ?_)
  refine (copyWork s x (hx.mono (by omega)) _ (h.keep T0.below)).mono ?_
  rintro r w1 ⟨s1, rfl, A1, hb1⟩
  have T1 := T0.keep hb1
  have T2 := T1.rowX s1
  have PB := (A1.part).base (B' := w.heap.size) (by simp; omega)
  have P2 := PB.setRow_ty T1.X (by decide) (by decide) (wc s1)
  have HP := Lib.hid A1.p
  have x2 := T2.X.cells
  have b2 := T2.lt
  have i0 := bag_index0 s1
  have i1 := bag_index1 s1
  have i2 := bag_index2 s1
  have R : Rp w w.heap.size (w.heap.size + 1) w1.heap.size s1 x s1 x #[.int .u64 0, .slice none 0 0, .int .u64 0, .slice none 0 0, .int .u64 0, .slice none 0 0] ((w1.setRow w.heap.size (wc s1)).alloc (.cells #[.int .u64 0, .slice none 0 0, .int .u64 0, .slice none 0 0, .int .u64 0, .slice none 0 0] 61)) :=
    have hb : Below (w1.setRow w.heap.size (wc s1)).heap.size (w1.setRow w.heap.size (wc s1)) ((w1.setRow w.heap.size (wc s1)).alloc (.cells #[.int .u64 0, .slice none 0 0, .int .u64 0, .slice none 0 0, .int .u64 0, .slice none 0 0] 61)) := (Below.refl _ _).alloc (Nat.le_refl _) _
    ⟨T2.keep hb, by have := Bk.new (w1.setRow w.heap.size (wc s1)) #[.int .u64 0, .slice none 0 0, .int .u64 0, .slice none 0 0, .int .u64 0, .slice none 0 0] 61; simpa using this, by have := hb1.size; simp at this; omega, P2.keep hb, P2.keep hb⟩
  have x3 := R.T.X.cells
  clear T0 A1 hb1 PB x2
  go_wp2_with (refine wpList_store_row rfl 63 _ _ rfl (w.heap.size) (wc s1) rfl rfl _ _ (by exact T1.X) (by kernel_rfl) (by kernel_rfl) (by kernel_rfl) ?_)
  obtain ⟨u0, hu0⟩ : ∃ u0, u0 = (w1.setRow w.heap.size (wc s1)).alloc (.cells #[.int .u64 0, .slice none 0 0, .int .u64 0, .slice none 0 0, .int .u64 0, .slice none 0 0] 61) := ⟨_, rfl⟩
  rw [← hu0] at R ⊢
  obtain ⟨gk, hgk⟩ : ∃ g, g = w1.heap.size := ⟨_, rfl⟩
  rw [← hgk] at R ⊢
  clear hu0 hgk T1 T2 P2 b2 x3
  refine wp_loop_rounds 4 ?_
  rw [rounds_succ]
  go_wp2_with fail
  refine (isRipe (b := false) (by rw [HP.out]; exact H0.out) s1.l0 _ HE.out).mono ?_
  rintro r v0 ⟨rfl, hb⟩
  have BB := (Bk.new u0 #[.int .u64 s1.p.t0, .slice s1.l0.ad s1.l0.len s1.l0.cap] 60).keep hb
  have zb := BB.cells
  have R := (R.keep ((Below.refl _ _).alloc (Nat.le_refl _) (.cells #[.int .u64 s1.p.t0, .slice s1.l0.ad s1.l0.len s1.l0.cap] 60))).keep hb
  clear hb
  have zk := R.K.cells
  have zf := R.K.frozen
  have RN := (R.setK 0 (.int .u64 s1.p.t0)).setK 1 (.slice s1.l0.ad s1.l0.len s1.l0.cap)
  simp only [List.setIfInBounds_toArray, List.set_cons_succ, List.set_cons_zero] at RN
  have bk := R.K.lt
  clear BB
  go_wp2_with fail
  have R := RN
  clear RN zk zf bk zb
  obtain ⟨u1, hu1⟩ : ∃ y, y = (v0.setCell ⟨gk, 0, none⟩ (.int .u64 s1.p.t0)).setCell ⟨gk, 1, none⟩ (.slice s1.l0.ad s1.l0.len s1.l0.cap) := ⟨_, rfl⟩
  rw [← hu1] at R ⊢
  clear hu1
  rw [rounds_succ]
  go_wp2_with fail
  refine (isRipe (b := false) (by rw [HP.out]; exact H1.out) s1.l1 _ HE.out).mono ?_
  rintro r v1 ⟨rfl, hb⟩
  have BB := (Bk.new u1 #[.int .u64 s1.p.t1, .slice s1.l1.ad s1.l1.len s1.l1.cap] 60).keep hb
  have zb := BB.cells
  have R := (R.keep ((Below.refl _ _).alloc (Nat.le_refl _) (.cells #[.int .u64 s1.p.t1, .slice s1.l1.ad s1.l1.len s1.l1.cap] 60))).keep hb
  clear hb
  have zk := R.K.cells
  have zf := R.K.frozen
  have RN := (R.setK 2 (.int .u64 s1.p.t1)).setK 3 (.slice s1.l1.ad s1.l1.len s1.l1.cap)
  simp only [List.setIfInBounds_toArray, List.set_cons_succ, List.set_cons_zero] at RN
  have bk := R.K.lt
  clear BB
  go_wp2_with fail
  have R := RN
  clear RN zk zf bk zb
  obtain ⟨u2, hu2⟩ : ∃ y, y = (v1.setCell ⟨gk, 2, none⟩ (.int .u64 s1.p.t1)).setCell ⟨gk, 3, none⟩ (.slice s1.l1.ad s1.l1.len s1.l1.cap) := ⟨_, rfl⟩
  rw [← hu2] at R ⊢
  clear hu2
  rw [rounds_succ]
  go_wp2_with fail
  refine (isRipe (b := true) (by rw [HP.out]; exact H2.out) s1.l2 _ HE.out).mono ?_
  rintro r v2 ⟨rfl, hb⟩
  have BB := (Bk.new u2 #[.int .u64 s1.p.t2, .slice s1.l2.ad s1.l2.len s1.l2.cap] 60).keep hb
  have zb := BB.cells
  have R := (R.keep ((Below.refl _ _).alloc (Nat.le_refl _) (.cells #[.int .u64 s1.p.t2, .slice s1.l2.ad s1.l2.len s1.l2.cap] 60))).keep hb
  clear hb
  go_wp2_with (refine wpList_load_row rfl 63 _ rfl (w.heap.size) rfl _ (wc s1) (0, 0) _ (by exact R.T.X) Try.underlying63 rfl (by kernel_rfl) ?_)
  refine (rackHold s1 x (⟨by have := hx.rk; simp <;> omega, by have := hx.l0; simp <;> omega, by have := hx.l1; simp <;> omega, by have := hx.l2; simp <;> omega, by have := hx.hl; have := hx.l0; have := hx.l1; have := hx.l2; simp <;> omega, by have := hx.rd; simp <;> omega⟩) s1.l2 x.l2 (by have := hx.l2; omega) _ R.P.lies R.A.l2.reads).mono ?_
  rintro r q2 ⟨s4, rfl, ⟨_, _, _, _, _, O, A⟩, hb⟩
  have hz := R.T.below.size
  have PN : Part w.heap.size q2 s4 { x with hl := x.hl ++ x.l2 } := Part.base ⟨A.p, A.rk, A.l0, A.l1, A.l2, O, A.rd⟩ hz
  have R := R.keep hb
  have RN := R.rowX PN
  clear O A hb BB zb PN hz
  go_wp2_with (refine wpList_store_row rfl 63 _ _ rfl (w.heap.size) (wc s4) rfl rfl _ _ (by exact R.T.X) (by kernel_rfl) (by kernel_rfl) (by kernel_rfl) ?_)
  have R := RN
  clear RN
  obtain ⟨u3, hu3⟩ : ∃ y, y = q2.setRow w.heap.size (wc s4) := ⟨_, rfl⟩
  rw [← hu3] at R ⊢
  clear hu3
  rw [rounds_succ]
  have Q6 := R.T.rowX { s4 with p := { s4.p with t0 := s1.p.t0, t1 := s1.p.t1, t2 := 0 }, l0 := s1.l0, l1 := s1.l1, l2 := nilS }
  have Q7 := Q6.rowZ { s4 with p := { s4.p with t0 := s1.p.t0, t1 := s1.p.t1, t2 := 0 }, l0 := s1.l0, l1 := s1.l1, l2 := nilS }
  clear i0 i1 i2 e11 e12 e13 e14 e15 e16 hx h
  go_wp2_with (first | (refine wpList_load_row rfl 61 _ rfl gk rfl _ (#[(.int .u64 s1.p.t0), (.slice s1.l0.ad s1.l0.len s1.l0.cap), (.int .u64 s1.p.t1), (.slice s1.l1.ad s1.l1.len s1.l1.cap), (.int .u64 0), (.slice none 0 0)]) (0, 0) _ (by exact R.K) Try.underlying61 rfl (by kernel_rfl) ?_) | (refine Sub.wpList_store_sub rfl 61 _ _ rfl w.heap.size 11 #[(.int .u64 s1.p.t0), (.slice s1.l0.ad s1.l0.len s1.l0.cap), (.int .u64 s1.p.t1), (.slice s1.l1.ad s1.l1.len s1.l1.cap), (.int .u64 0), (.slice none 0 0)] rfl rfl 63 (wc s4) (wc { s4 with p := { s4.p with t0 := s1.p.t0, t1 := s1.p.t1, t2 := 0 }, l0 := s1.l0, l1 := s1.l1, l2 := nilS }) (by exact R.T.X) (by kernel_rfl) (Nat.le_of_ble_eq_true (by kernel_rfl)) (by kernel_rfl) (by kernel_rfl) ?_) | (refine wpList_load_row rfl 63 _ rfl (w.heap.size) rfl _ (wc { s4 with p := { s4.p with t0 := s1.p.t0, t1 := s1.p.t1, t2 := 0 }, l0 := s1.l0, l1 := s1.l1, l2 := nilS }) (0, 0) _ (by exact Q6.X) Try.underlying63 rfl (by kernel_rfl) ?_) | (refine wpList_store_row rfl 63 _ _ rfl (w.heap.size + 1) (wc { s4 with p := { s4.p with t0 := s1.p.t0, t1 := s1.p.t1, t2 := 0 }, l0 := s1.l0, l1 := s1.l1, l2 := nilS }) rfl rfl _ _ (by exact Q6.Z) (by kernel_rfl) (by kernel_rfl) (by kernel_rfl) ?_))
  refine bodyPost_ret (v := wv { s4 with p := { s4.p with t0 := s1.p.t0, t1 := s1.p.t1, t2 := 0 }, l0 := s1.l0, l1 := s1.l1, l2 := nilS }) ?_ rfl ⟨_, rfl, ?_, Q7.below⟩
  · exact results_cell_row (p := 4) (ty := 63) Try.results40 _ _ (w.heap.size + 1) 63 _ (0, 0) _ rfl Q7.Z Try.underlying63 rfl (by kernel_rfl)
  · have PE := (R.P.setRow_ty R.T.X (by decide) (by decide) (wc { s4 with p := { s4.p with t0 := s1.p.t0, t1 := s1.p.t1, t2 := 0 }, l0 := s1.l0, l1 := s1.l1, l2 := nilS })).setRow_ty Q6.Z (by decide) (by decide) (wc { s4 with p := { s4.p with t0 := s1.p.t0, t1 := s1.p.t1, t2 := 0 }, l0 := s1.l0, l1 := s1.l1, l2 := nilS })
    have AE := (R.A.setRow_ty R.T.X (by decide) (by decide) (wc { s4 with p := { s4.p with t0 := s1.p.t0, t1 := s1.p.t1, t2 := 0 }, l0 := s1.l0, l1 := s1.l1, l2 := nilS })).setRow_ty Q6.Z (by decide) (by decide) (wc { s4 with p := { s4.p with t0 := s1.p.t0, t1 := s1.p.t1, t2 := 0 }, l0 := s1.l0, l1 := s1.l1, l2 := nilS })
    unfold ripeS
    rw [H0.out, H1.out, H2.out]
    refine ⟨?_, PE.rk.rdF, AE.l0.rdF, AE.l1.rdF, Fresh.nil.rdF (t := 3), ?_, PE.rd.rdF⟩
    · simp [PE.p, HP.out]
    · simpa using PE.hl.rdF
set_option maxRecDepth 10000 in
set_option maxHeartbeats 4000000 in
theorem ripe_nnn (s : Wk) (x : St) (hx : Few 200 x) (e : Int) (he : e < 18446744073709551616) (w : World) (h : Lies w s x) (h0 : ripeB x.p.t0 e = false) (h1 : ripeB x.p.t1 e = false) (h2 : ripeB x.p.t2 e = false) :
    Calls Try.prog 40 #[wv s, .int .u64 e] w fun r w' => ∃ s', r = .returned (wv s') ∧ LiesF w.heap.size w' s' (ripeS x e) ∧ Below w.heap.size w w' := by
  have H0 := Lib.hid h0
  have H1 := Lib.hid h1
  have H2 := Lib.hid h2
  clear h0 h1 h2
  have HE := Lib.hid he
  clear he
  have e11 : ∀ s : Wk, (wc s)[11]? = some (.int .u64 s.p.t0) := fun _ => rfl
  have e12 : ∀ s : Wk, (wc s)[12]? = some (.slice s.l0.ad s.l0.len s.l0.cap) := fun _ => rfl
  have e13 : ∀ s : Wk, (wc s)[13]? = some (.int .u64 s.p.t1) := fun _ => rfl
  have e14 : ∀ s : Wk, (wc s)[14]? = some (.slice s.l1.ad s.l1.len s.l1.cap) := fun _ => rfl
  have e15 : ∀ s : Wk, (wc s)[15]? = some (.int .u64 s.p.t2) := fun _ => rfl
  have e16 : ∀ s : Wk, (wc s)[16]? = some (.slice s.l2.ad s.l2.len s.l2.cap) := fun _ => rfl
  have T0 := Two.start w s
  go_enter Try.func40, Try.ntmps40
  go_wp2_with (refine wpList_load_row rfl 63 _ rfl (w.heap.size) rfl _ (wc s) (0, 0) _ (by exact T0.X) Try.underlying63 rfl (by kernel_rfl) ?_)
  refine (copyWork s x (hx.mono (by omega)) _ (h.keep T0.below)).mono ?_
  rintro r w1 ⟨s1, rfl, A1, hb1⟩
  have T1 := T0.keep hb1
  have T2 := T1.rowX s1
  have PB := (A1.part).base (B' := w.heap.size) (by simp; omega)
  have P2 := PB.setRow_ty T1.X (by decide) (by decide) (wc s1)
  have HP := Lib.hid A1.p
  have x2 := T2.X.cells
  have b2 := T2.lt
  have i0 := bag_index0 s1
  have i1 := bag_index1 s1
  have i2 := bag_index2 s1
  have R : Rp w w.heap.size (w.heap.size + 1) w1.heap.size s1 x s1 x #[.int .u64 0, .slice none 0 0, .int .u64 0, .slice none 0 0, .int .u64 0, .slice none 0 0] ((w1.setRow w.heap.size (wc s1)).alloc (.cells #[.int .u64 0, .slice none 0 0, .int .u64 0, .slice none 0 0, .int .u64 0, .slice none 0 0] 61)) :=
    have hb : Below (w1.setRow w.heap.size (wc s1)).heap.size (w1.setRow w.heap.size (wc s1)) ((w1.setRow w.heap.size (wc s1)).alloc (.cells #[.int .u64 0, .slice none 0 0, .int .u64 0, .slice none 0 0, .int .u64 0, .slice none 0 0] 61)) := (Below.refl _ _).alloc (Nat.le_refl _) _
    ⟨T2.keep hb, by have := Bk.new (w1.setRow w.heap.size (wc s1)) #[.int .u64 0, .slice none 0 0, .int .u64 0, .slice none 0 0, .int .u64 0, .slice none 0 0] 61; simpa using this, by have := hb1.size; simp at this; omega, P2.keep hb, P2.keep hb⟩
  have x3 := R.T.X.cells
  clear T0 A1 hb1 PB x2
  go_wp2_with (refine wpList_store_row rfl 63 _ _ rfl (w.heap.size) (wc s1) rfl rfl _ _ (by exact T1.X) (by kernel_rfl) (by kernel_rfl) (by kernel_rfl) ?_)
  obtain ⟨u0, hu0⟩ : ∃ u0, u0 = (w1.setRow w.heap.size (wc s1)).alloc (.cells #[.int .u64 0, .slice none 0 0, .int .u64 0, .slice none 0 0, .int .u64 0, .slice none 0 0] 61) := ⟨_, rfl⟩
  rw [← hu0] at R ⊢
  obtain ⟨gk, hgk⟩ : ∃ g, g = w1.heap.size := ⟨_, rfl⟩
  rw [← hgk] at R ⊢
  clear hu0 hgk T1 T2 P2 b2 x3
  refine wp_loop_rounds 4 ?_
  rw [rounds_succ]
  go_wp2_with fail
  refine (isRipe (b := false) (by rw [HP.out]; exact H0.out) s1.l0 _ HE.out).mono ?_
  rintro r v0 ⟨rfl, hb⟩
  have BB := (Bk.new u0 #[.int .u64 s1.p.t0, .slice s1.l0.ad s1.l0.len s1.l0.cap] 60).keep hb
  have zb := BB.cells
  have R := (R.keep ((Below.refl _ _).alloc (Nat.le_refl _) (.cells #[.int .u64 s1.p.t0, .slice s1.l0.ad s1.l0.len s1.l0.cap] 60))).keep hb
  clear hb
  have zk := R.K.cells
  have zf := R.K.frozen
  have RN := (R.setK 0 (.int .u64 s1.p.t0)).setK 1 (.slice s1.l0.ad s1.l0.len s1.l0.cap)
  simp only [List.setIfInBounds_toArray, List.set_cons_succ, List.set_cons_zero] at RN
  have bk := R.K.lt
  clear BB
  go_wp2_with fail
  have R := RN
  clear RN zk zf bk zb
  obtain ⟨u1, hu1⟩ : ∃ y, y = (v0.setCell ⟨gk, 0, none⟩ (.int .u64 s1.p.t0)).setCell ⟨gk, 1, none⟩ (.slice s1.l0.ad s1.l0.len s1.l0.cap) := ⟨_, rfl⟩
  rw [← hu1] at R ⊢
  clear hu1
  rw [rounds_succ]
  go_wp2_with fail
  refine (isRipe (b := false) (by rw [HP.out]; exact H1.out) s1.l1 _ HE.out).mono ?_
  rintro r v1 ⟨rfl, hb⟩
  have BB := (Bk.new u1 #[.int .u64 s1.p.t1, .slice s1.l1.ad s1.l1.len s1.l1.cap] 60).keep hb
  have zb := BB.cells
  have R := (R.keep ((Below.refl _ _).alloc (Nat.le_refl _) (.cells #[.int .u64 s1.p.t1, .slice s1.l1.ad s1.l1.len s1.l1.cap] 60))).keep hb
  clear hb
  have zk := R.K.cells
  have zf := R.K.frozen
  have RN := (R.setK 2 (.int .u64 s1.p.t1)).setK 3 (.slice s1.l1.ad s1.l1.len s1.l1.cap)
  simp only [List.setIfInBounds_toArray, List.set_cons_succ, List.set_cons_zero] at RN
  have bk := R.K.lt
  clear BB
  go_wp2_with fail
  have R := RN
  clear RN zk zf bk zb
  obtain ⟨u2, hu2⟩ : ∃ y, y = (v1.setCell ⟨gk, 2, none⟩ (.int .u64 s1.p.t1)).setCell ⟨gk, 3, none⟩ (.slice s1.l1.ad s1.l1.len s1.l1.cap) := ⟨_, rfl⟩
  rw [← hu2] at R ⊢
  clear hu2
  rw [rounds_succ]
  go_wp2_with fail
  refine (isRipe (b := false) (by rw [HP.out]; exact H2.out) s1.l2 _ HE.out).mono ?_
  rintro r v2 ⟨rfl, hb⟩
  have BB := (Bk.new u2 #[.int .u64 s1.p.t2, .slice s1.l2.ad s1.l2.len s1.l2.cap] 60).keep hb
  have zb := BB.cells
  have R := (R.keep ((Below.refl _ _).alloc (Nat.le_refl _) (.cells #[.int .u64 s1.p.t2, .slice s1.l2.ad s1.l2.len s1.l2.cap] 60))).keep hb
  clear hb
  have zk := R.K.cells
  have zf := R.K.frozen
  have RN := (R.setK 4 (.int .u64 s1.p.t2)).setK 5 (.slice s1.l2.ad s1.l2.len s1.l2.cap)
  simp only [List.setIfInBounds_toArray, List.set_cons_succ, List.set_cons_zero] at RN
  have bk := R.K.lt
  clear BB
  go_wp2_with fail
  have R := RN
  clear RN zk zf bk zb
  obtain ⟨u3, hu3⟩ : ∃ y, y = (v2.setCell ⟨gk, 4, none⟩ (.int .u64 s1.p.t2)).setCell ⟨gk, 5, none⟩ (.slice s1.l2.ad s1.l2.len s1.l2.cap) := ⟨_, rfl⟩
  rw [← hu3] at R ⊢
  clear hu3
  rw [rounds_succ]
  have Q6 := R.T.rowX { s1 with p := { s1.p with t0 := s1.p.t0, t1 := s1.p.t1, t2 := s1.p.t2 }, l0 := s1.l0, l1 := s1.l1, l2 := s1.l2 }
  have Q7 := Q6.rowZ { s1 with p := { s1.p with t0 := s1.p.t0, t1 := s1.p.t1, t2 := s1.p.t2 }, l0 := s1.l0, l1 := s1.l1, l2 := s1.l2 }
  clear i0 i1 i2 e11 e12 e13 e14 e15 e16 hx h
  go_wp2_with (first | (refine wpList_load_row rfl 61 _ rfl gk rfl _ (#[(.int .u64 s1.p.t0), (.slice s1.l0.ad s1.l0.len s1.l0.cap), (.int .u64 s1.p.t1), (.slice s1.l1.ad s1.l1.len s1.l1.cap), (.int .u64 s1.p.t2), (.slice s1.l2.ad s1.l2.len s1.l2.cap)]) (0, 0) _ (by exact R.K) Try.underlying61 rfl (by kernel_rfl) ?_) | (refine Sub.wpList_store_sub rfl 61 _ _ rfl w.heap.size 11 #[(.int .u64 s1.p.t0), (.slice s1.l0.ad s1.l0.len s1.l0.cap), (.int .u64 s1.p.t1), (.slice s1.l1.ad s1.l1.len s1.l1.cap), (.int .u64 s1.p.t2), (.slice s1.l2.ad s1.l2.len s1.l2.cap)] rfl rfl 63 (wc s1) (wc { s1 with p := { s1.p with t0 := s1.p.t0, t1 := s1.p.t1, t2 := s1.p.t2 }, l0 := s1.l0, l1 := s1.l1, l2 := s1.l2 }) (by exact R.T.X) (by kernel_rfl) (Nat.le_of_ble_eq_true (by kernel_rfl)) (by kernel_rfl) (by kernel_rfl) ?_) | (refine wpList_load_row rfl 63 _ rfl (w.heap.size) rfl _ (wc { s1 with p := { s1.p with t0 := s1.p.t0, t1 := s1.p.t1, t2 := s1.p.t2 }, l0 := s1.l0, l1 := s1.l1, l2 := s1.l2 }) (0, 0) _ (by exact Q6.X) Try.underlying63 rfl (by kernel_rfl) ?_) | (refine wpList_store_row rfl 63 _ _ rfl (w.heap.size + 1) (wc { s1 with p := { s1.p with t0 := s1.p.t0, t1 := s1.p.t1, t2 := s1.p.t2 }, l0 := s1.l0, l1 := s1.l1, l2 := s1.l2 }) rfl rfl _ _ (by exact Q6.Z) (by kernel_rfl) (by kernel_rfl) (by kernel_rfl) ?_))
  refine bodyPost_ret (v := wv { s1 with p := { s1.p with t0 := s1.p.t0, t1 := s1.p.t1, t2 := s1.p.t2 }, l0 := s1.l0, l1 := s1.l1, l2 := s1.l2 }) ?_ rfl ⟨_, rfl, ?_, Q7.below⟩
  · exact results_cell_row (p := 4) (ty := 63) Try.results40 _ _ (w.heap.size + 1) 63 _ (0, 0) _ rfl Q7.Z Try.underlying63 rfl (by kernel_rfl)
  · have PE := (R.P.setRow_ty R.T.X (by decide) (by decide) (wc { s1 with p := { s1.p with t0 := s1.p.t0, t1 := s1.p.t1, t2 := s1.p.t2 }, l0 := s1.l0, l1 := s1.l1, l2 := s1.l2 })).setRow_ty Q6.Z (by decide) (by decide) (wc { s1 with p := { s1.p with t0 := s1.p.t0, t1 := s1.p.t1, t2 := s1.p.t2 }, l0 := s1.l0, l1 := s1.l1, l2 := s1.l2 })
    have AE := (R.A.setRow_ty R.T.X (by decide) (by decide) (wc { s1 with p := { s1.p with t0 := s1.p.t0, t1 := s1.p.t1, t2 := s1.p.t2 }, l0 := s1.l0, l1 := s1.l1, l2 := s1.l2 })).setRow_ty Q6.Z (by decide) (by decide) (wc { s1 with p := { s1.p with t0 := s1.p.t0, t1 := s1.p.t1, t2 := s1.p.t2 }, l0 := s1.l0, l1 := s1.l1, l2 := s1.l2 })
    unfold ripeS
    rw [H0.out, H1.out, H2.out]
    refine ⟨?_, PE.rk.rdF, AE.l0.rdF, AE.l1.rdF, AE.l2.rdF, ?_, PE.rd.rdF⟩
    · simp [PE.p, HP.out]
    · simpa using PE.hl.rdF
theorem bagRipe (s : Wk) (x : St) (hx : Few 200 x) (e : Int) (he : e < 18446744073709551616) (w : World) (h : Lies w s x) :
    Calls Try.prog 40 #[wv s, .int .u64 e] w fun r w' => ∃ s', r = .returned (wv s') ∧ LiesF w.heap.size w' s' (ripeS x e) ∧ Below w.heap.size w w' := by
  cases h0 : ripeB x.p.t0 e <;> cases h1 : ripeB x.p.t1 e <;> cases h2 : ripeB x.p.t2 e
  · exact ripe_nnn s x hx e he w h h0 h1 h2
  · exact ripe_nny s x hx e he w h h0 h1 h2
  · exact ripe_nyn s x hx e he w h h0 h1 h2
  · exact ripe_nyy s x hx e he w h h0 h1 h2
  · exact ripe_ynn s x hx e he w h h0 h1 h2
  · exact ripe_yny s x hx e he w h h0 h1 h2
  · exact ripe_yyn s x hx e he w h h0 h1 h2
  · exact ripe_yyy s x hx e he w h h0 h1 h2
end Go.Proofs.Ytkplkhcboobfaaa.Wo
