/- The reference of layer 5: Ripe (made by genref05r.py). -/
import Derived.Test.YtkplkhcboobfaaaRef05
namespace Go.Proofs.Ytkplkhcboobfaaa.Wo
open Go Go.RowKit Go.Proofs.Ytkplkhcboobfaaa.Gro Go.Proofs.Ytkplkhcboobfaaa.Own Go.Proofs.Ytkplkhcboobfaaa.Wd Go.Proofs.Ytkplkhcboobfaaa.Ap Go.Proofs.Ytkplkhcboobfaaa.Pl
set_option linter.unusedVariables false
set_option linter.unusedSimpArgs false
set_option maxRecDepth 100000 in
set_option maxHeartbeats 4000000 in
theorem refRipe_yyy (s : Wk) (x : St) (hx : Few 200 x) (e : Int) (he : e < 18446744073709551616) (w : World) (h : Lies w s x) (h0 : ripeB x.p.t0 e = true) (h1 : ripeB x.p.t1 e = true) (h2 : ripeB x.p.t2 e = true) :
    Calls Try.prog 41 #[wv s, .int .u64 e] w fun r w' => ∃ s', r = .returned (wv s') ∧ Lies w' s' (ripeS x e) ∧ Below w.heap.size w w' := by
  have H0 := Lib.hid h0
  have H1 := Lib.hid h1
  have H2 := Lib.hid h2
  clear h0 h1 h2
  have HE := Lib.hid he
  clear he
  have e11 : ∀ s : Wk, (wc s)[11]? = some (.int .u64 s.p.t0) := fun _ => rfl
  have e12 : ∀ s : Wk, (wc s)[12]? = some (.slice s.l0.ad s.l0.len s.l0.cap) := fun _ => rfl
  have e13 : ∀ s : Wk, (wc s)[13]? = some (.int .u64 s.p.t1) := fun _ => rfl
  have e14 : ∀ s : Wk, (wc s)[14]? = some (.slice s.l1.ad s.l1.len s.l1.cap) := fun _ => rfl
  have e15 : ∀ s : Wk, (wc s)[15]? = some (.int .u64 s.p.t2) := fun _ => rfl
  have e16 : ∀ s : Wk, (wc s)[16]? = some (.slice s.l2.ad s.l2.len s.l2.cap) := fun _ => rfl
  have T := Two.start w s
  have L := h.keep T.below
  have HP := Lib.hid h.p
  have HS := Lib.hid h.p
  have HF := Lib.hid hx
  have N1 : NoB (w.heap.size) s x := noB_all h (Nat.le_refl _)
  have N2 : NoB (w.heap.size + 1) s x := noB_all h (by omega)
  have xx := T.X.cells
  have bl := T.lt
  go_enter Try.func41, Try.ntmps41
  go_wp2_with fail
  refine wp_loop_rounds 4 ?_
  rw [rounds_succ]
  go_wp2_with fail
  refine (refIs (t := (s).p.t0) (b := true) (by rw [HS.out]; exact H0.out) _ HE.out).mono ?_
  rintro r z0 ⟨rfl, rfl⟩
  go_wp2_with fail
  refine wp_region_grown_tail 6 (by kernel_rfl) (by kernel_rfl) ?_
  simp only [List.take_succ_cons, List.take_zero, List.drop_succ_cons, List.drop_zero]
  have hg := @gcell
  (refine wpQuiet_load_row rfl 63 _ rfl (w.heap.size) rfl (wc (s)) 63 _ (by rintro _ ⟨n, rfl⟩; exact Bk.keep T.X n.2) Try.underlying63 rfl (by kernel_rfl) ?_; simp only [Act.put, List.setIfInBounds_toArray, List.set_cons_succ, List.set_cons_zero])
  repeat (go_big_quiet_step (fail))
  refine wpQuiet_nil ?_
  rintro v0 ⟨⟨_, hbv⟩, rfl⟩
  clear hg
  have T := T.keep hbv
  have L := L.keep hbv
  clear xx bl
  go_wp2_with fail
  refine (refHold (s) (x) (HF.out.mono (by omega)) (s).l0 (x).l0 (Nat.le_trans HF.out.l0 (by omega)) _ L L.l0).mono ?_
  rintro r q0 ⟨s', rfl, LH, RD, ES, hb⟩
  obtain ⟨hq0, hq'⟩ : ∃ h, h = s'.hl := ⟨_, rfl⟩
  rw [← hq'] at ES RD
  clear hq'
  subst ES
  have bq := T.lt
  have TH := T.keep hb
  have T1 := TH.rowX ({ s with hl := hq0 })
  have NH1 : NoB (w.heap.size) ({ s with hl := hq0 }) (holdS (x) (x).l0) := ⟨N1.rk, N1.l0, N1.l1, N1.l2, RD.2.imp id (fun q a ha => by have := q a ha; omega), N1.rd⟩
  have NH2 : NoB (w.heap.size + 1) ({ s with hl := hq0 }) (holdS (x) (x).l0) := ⟨N2.rk, N2.l0, N2.l1, N2.l2, RD.2.imp id (fun q a ha => by have := q a ha; omega), N2.rd⟩
  have L1 := LH.row NH1 (wc ({ s with hl := hq0 }))
  have T3 := T1.rowX ({ s with p := { (s).p with t0 := 0 }, l0 := nilS, hl := hq0 })
  have L3 := L1.row NH1 (wc ({ s with p := { (s).p with t0 := 0 }, l0 := nilS, hl := hq0 }))
  go_wp2_with (first | (refine wpList_store_row rfl 63 _ _ rfl (w.heap.size) (wc ({ s with hl := hq0 })) rfl rfl _ _ (by exact TH.X) (by kernel_rfl) (by kernel_rfl) (by kernel_rfl) ?_) | (refine Sub.wpList_store_sub rfl 60 _ _ rfl (w.heap.size) 11 #[.int .u64 0, .slice none 0 0] rfl rfl 63 (wc ({ s with hl := hq0 })) (wc ({ s with p := { (s).p with t0 := 0 }, l0 := nilS, hl := hq0 })) (by exact T1.X) (by kernel_rfl) (Nat.le_of_ble_eq_true (by kernel_rfl)) (by kernel_rfl) (by kernel_rfl) ?_))
  obtain ⟨u1, hu1⟩ : ∃ u, u = (q0.setRow (w.heap.size) (wc ({ s with hl := hq0 }))).setRow (w.heap.size) (wc ({ s with p := { (s).p with t0 := 0 }, l0 := nilS, hl := hq0 })) := ⟨_, rfl⟩
  rw [← hu1] at T3 L3 ⊢
  have T := T3
  have HP : RowKit.Hid (({ s with p := { (s).p with t0 := 0 }, l0 := nilS, hl := hq0 }).p = ({ x with p := { (x).p with t0 := 0 }, l0 := [], hl := (x).hl ++ (x).l0 }).p) := Lib.hid (congrArg (fun p : Pl => { p with t0 := 0 }) HP.out)
  have L : Lies u1 ({ s with p := { (s).p with t0 := 0 }, l0 := nilS, hl := hq0 }) ({ x with p := { (x).p with t0 := 0 }, l0 := [], hl := (x).hl ++ (x).l0 }) := ⟨HP.out, L3.rk, Reads.nil _ _, L3.l1, L3.l2, L3.hl, L3.rd⟩
  have N1 : NoB (w.heap.size) ({ s with p := { (s).p with t0 := 0 }, l0 := nilS, hl := hq0 }) ({ x with p := { (x).p with t0 := 0 }, l0 := [], hl := (x).hl ++ (x).l0 }) := ⟨NH1.rk, .inl rfl, NH1.l1, NH1.l2, NH1.hl, NH1.rd⟩
  have N2 : NoB (w.heap.size + 1) ({ s with p := { (s).p with t0 := 0 }, l0 := nilS, hl := hq0 }) ({ x with p := { (x).p with t0 := 0 }, l0 := [], hl := (x).hl ++ (x).l0 }) := ⟨NH2.rk, .inl rfl, NH2.l1, NH2.l2, NH2.hl, NH2.rd⟩
  have xx := T.X.cells
  have bl := T.lt
  clear hu1 T3 T1 TH L1 L3 NH1 NH2 LH RD hb hbv bq
  have hli : (x).l0.length ≤ 200 := hx.l0
  have HF : RowKit.Hid (Few 400 ({ x with p := { (x).p with t0 := 0 }, l0 := [], hl := (x).hl ++ (x).l0 })) := Lib.hid ⟨Nat.le_trans HF.out.rk (by omega), Nat.zero_le _, Nat.le_trans HF.out.l1 (by omega), Nat.le_trans HF.out.l2 (by omega), by show ((x).hl ++ (x).l0).length ≤ _; rw [List.length_append]; have a := HF.out.hl; omega, Nat.le_trans HF.out.rd (by omega)⟩
  clear hli
  obtain ⟨sn1, hsn1⟩ : ∃ t : Wk, t = { s with p := { (s).p with t0 := 0 }, l0 := nilS, hl := hq0 } := ⟨_, rfl⟩
  obtain ⟨xn1, hxn1⟩ : ∃ t : St, t = { x with p := { (x).p with t0 := 0 }, l0 := [], hl := (x).hl ++ (x).l0 } := ⟨_, rfl⟩
  have FT1_0 : RowKit.Hid (sn1.p.t1 = s.p.t1) := Lib.hid (by rw [hsn1])
  have FX1_0 : RowKit.Hid (xn1.l1 = x.l1) := Lib.hid (by rw [hxn1])
  have FT2_0 : RowKit.Hid (sn1.p.t2 = s.p.t2) := Lib.hid (by rw [hsn1])
  have FX2_0 : RowKit.Hid (xn1.l2 = x.l2) := Lib.hid (by rw [hxn1])
  have HXN0 := Lib.hid hxn1
  rw [← hsn1] at T xx
  rw [← hsn1, ← hxn1] at L N1 N2 HP
  rw [← hxn1] at HF
  clear hsn1 hxn1
  rw [rounds_succ]
  go_wp2_with fail
  refine (refIs (t := (sn1).p.t1) (b := true) (by rw [FT1_0.out, HS.out]; exact H1.out) _ HE.out).mono ?_
  rintro r z1 ⟨rfl, rfl⟩
  go_wp2_with fail
  refine wp_region_grown_tail 6 (by kernel_rfl) (by kernel_rfl) ?_
  simp only [List.take_succ_cons, List.take_zero, List.drop_succ_cons, List.drop_zero]
  have hg := @gcell
  (refine wpQuiet_load_row rfl 63 _ rfl (w.heap.size) rfl (wc (sn1)) 63 _ (by rintro _ ⟨n, rfl⟩; exact Bk.keep T.X n.2) Try.underlying63 rfl (by kernel_rfl) ?_; simp only [Act.put, List.setIfInBounds_toArray, List.set_cons_succ, List.set_cons_zero])
  repeat (go_big_quiet_step (fail))
  refine wpQuiet_nil ?_
  rintro v1 ⟨⟨_, hbv⟩, rfl⟩
  clear hg
  have T := T.keep hbv
  have L := L.keep hbv
  clear xx bl
  go_wp2_with fail
  refine (refHold (sn1) (xn1) (HF.out.mono (by omega)) (sn1).l1 (xn1).l1 (Nat.le_trans HF.out.l1 (by omega)) _ L L.l1).mono ?_
  rintro r q1 ⟨s', rfl, LH, RD, ES, hb⟩
  obtain ⟨hq1, hq'⟩ : ∃ h, h = s'.hl := ⟨_, rfl⟩
  rw [← hq'] at ES RD
  clear hq'
  subst ES
  have bq := T.lt
  have TH := T.keep hb
  have T1 := TH.rowX ({ sn1 with hl := hq1 })
  have NH1 : NoB (w.heap.size) ({ sn1 with hl := hq1 }) (holdS (xn1) (xn1).l1) := ⟨N1.rk, N1.l0, N1.l1, N1.l2, RD.2.imp id (fun q a ha => by have := q a ha; omega), N1.rd⟩
  have NH2 : NoB (w.heap.size + 1) ({ sn1 with hl := hq1 }) (holdS (xn1) (xn1).l1) := ⟨N2.rk, N2.l0, N2.l1, N2.l2, RD.2.imp id (fun q a ha => by have := q a ha; omega), N2.rd⟩
  have L1 := LH.row NH1 (wc ({ sn1 with hl := hq1 }))
  have T3 := T1.rowX ({ sn1 with p := { (sn1).p with t1 := 0 }, l1 := nilS, hl := hq1 })
  have L3 := L1.row NH1 (wc ({ sn1 with p := { (sn1).p with t1 := 0 }, l1 := nilS, hl := hq1 }))
  go_wp2_with (first | (refine wpList_store_row rfl 63 _ _ rfl (w.heap.size) (wc ({ sn1 with hl := hq1 })) rfl rfl _ _ (by exact TH.X) (by kernel_rfl) (by kernel_rfl) (by kernel_rfl) ?_) | (refine Sub.wpList_store_sub rfl 60 _ _ rfl (w.heap.size) 13 #[.int .u64 0, .slice none 0 0] rfl rfl 63 (wc ({ sn1 with hl := hq1 })) (wc ({ sn1 with p := { (sn1).p with t1 := 0 }, l1 := nilS, hl := hq1 })) (by exact T1.X) (by kernel_rfl) (Nat.le_of_ble_eq_true (by kernel_rfl)) (by kernel_rfl) (by kernel_rfl) ?_))
  obtain ⟨u2, hu2⟩ : ∃ u, u = (q1.setRow (w.heap.size) (wc ({ sn1 with hl := hq1 }))).setRow (w.heap.size) (wc ({ sn1 with p := { (sn1).p with t1 := 0 }, l1 := nilS, hl := hq1 })) := ⟨_, rfl⟩
  rw [← hu2] at T3 L3 ⊢
  have T := T3
  have HP : RowKit.Hid (({ sn1 with p := { (sn1).p with t1 := 0 }, l1 := nilS, hl := hq1 }).p = ({ xn1 with p := { (xn1).p with t1 := 0 }, l1 := [], hl := (xn1).hl ++ (xn1).l1 }).p) := Lib.hid (congrArg (fun p : Pl => { p with t1 := 0 }) HP.out)
  have L : Lies u2 ({ sn1 with p := { (sn1).p with t1 := 0 }, l1 := nilS, hl := hq1 }) ({ xn1 with p := { (xn1).p with t1 := 0 }, l1 := [], hl := (xn1).hl ++ (xn1).l1 }) := ⟨HP.out, L3.rk, L3.l0, Reads.nil _ _, L3.l2, L3.hl, L3.rd⟩
  have N1 : NoB (w.heap.size) ({ sn1 with p := { (sn1).p with t1 := 0 }, l1 := nilS, hl := hq1 }) ({ xn1 with p := { (xn1).p with t1 := 0 }, l1 := [], hl := (xn1).hl ++ (xn1).l1 }) := ⟨NH1.rk, NH1.l0, .inl rfl, NH1.l2, NH1.hl, NH1.rd⟩
  have N2 : NoB (w.heap.size + 1) ({ sn1 with p := { (sn1).p with t1 := 0 }, l1 := nilS, hl := hq1 }) ({ xn1 with p := { (xn1).p with t1 := 0 }, l1 := [], hl := (xn1).hl ++ (xn1).l1 }) := ⟨NH2.rk, NH2.l0, .inl rfl, NH2.l2, NH2.hl, NH2.rd⟩
  have xx := T.X.cells
  have bl := T.lt
  clear hu2 T3 T1 TH L1 L3 NH1 NH2 LH RD hb hbv bq
  have hli : (xn1).l1.length ≤ 200 := (by rw [FX1_0.out]; exact hx.l1)
  have HF : RowKit.Hid (Few 600 ({ xn1 with p := { (xn1).p with t1 := 0 }, l1 := [], hl := (xn1).hl ++ (xn1).l1 })) := Lib.hid ⟨Nat.le_trans HF.out.rk (by omega), Nat.le_trans HF.out.l0 (by omega), Nat.zero_le _, Nat.le_trans HF.out.l2 (by omega), by show ((xn1).hl ++ (xn1).l1).length ≤ _; rw [List.length_append]; have a := HF.out.hl; omega, Nat.le_trans HF.out.rd (by omega)⟩
  clear hli
  obtain ⟨sn2, hsn2⟩ : ∃ t : Wk, t = { sn1 with p := { (sn1).p with t1 := 0 }, l1 := nilS, hl := hq1 } := ⟨_, rfl⟩
  obtain ⟨xn2, hxn2⟩ : ∃ t : St, t = { xn1 with p := { (xn1).p with t1 := 0 }, l1 := [], hl := (xn1).hl ++ (xn1).l1 } := ⟨_, rfl⟩
  have FT2_1 : RowKit.Hid (sn2.p.t2 = s.p.t2) := Lib.hid (by rw [hsn2]; exact FT2_0.out)
  have FX2_1 : RowKit.Hid (xn2.l2 = x.l2) := Lib.hid (by rw [hxn2]; exact FX2_0.out)
  have HXN1 := Lib.hid hxn2
  rw [← hsn2] at T xx
  rw [← hsn2, ← hxn2] at L N1 N2 HP
  rw [← hxn2] at HF
  clear hsn2 hxn2
  rw [rounds_succ]
  go_wp2_with fail
  refine (refIs (t := (sn2).p.t2) (b := true) (by rw [FT2_1.out, HS.out]; exact H2.out) _ HE.out).mono ?_
  rintro r z2 ⟨rfl, rfl⟩
  go_wp2_with fail
  refine wp_region_grown_tail 6 (by kernel_rfl) (by kernel_rfl) ?_
  simp only [List.take_succ_cons, List.take_zero, List.drop_succ_cons, List.drop_zero]
  have hg := @gcell
  (refine wpQuiet_load_row rfl 63 _ rfl (w.heap.size) rfl (wc (sn2)) 63 _ (by rintro _ ⟨n, rfl⟩; exact Bk.keep T.X n.2) Try.underlying63 rfl (by kernel_rfl) ?_; simp only [Act.put, List.setIfInBounds_toArray, List.set_cons_succ, List.set_cons_zero])
  repeat (go_big_quiet_step (fail))
  refine wpQuiet_nil ?_
  rintro v2 ⟨⟨_, hbv⟩, rfl⟩
  clear hg
  have T := T.keep hbv
  have L := L.keep hbv
  clear xx bl
  go_wp2_with fail
  refine (refHold (sn2) (xn2) (HF.out.mono (by omega)) (sn2).l2 (xn2).l2 (Nat.le_trans HF.out.l2 (by omega)) _ L L.l2).mono ?_
  rintro r q2 ⟨s', rfl, LH, RD, ES, hb⟩
  obtain ⟨hq2, hq'⟩ : ∃ h, h = s'.hl := ⟨_, rfl⟩
  rw [← hq'] at ES RD
  clear hq'
  subst ES
  have bq := T.lt
  have TH := T.keep hb
  have T1 := TH.rowX ({ sn2 with hl := hq2 })
  have NH1 : NoB (w.heap.size) ({ sn2 with hl := hq2 }) (holdS (xn2) (xn2).l2) := ⟨N1.rk, N1.l0, N1.l1, N1.l2, RD.2.imp id (fun q a ha => by have := q a ha; omega), N1.rd⟩
  have NH2 : NoB (w.heap.size + 1) ({ sn2 with hl := hq2 }) (holdS (xn2) (xn2).l2) := ⟨N2.rk, N2.l0, N2.l1, N2.l2, RD.2.imp id (fun q a ha => by have := q a ha; omega), N2.rd⟩
  have L1 := LH.row NH1 (wc ({ sn2 with hl := hq2 }))
  have T3 := T1.rowX ({ sn2 with p := { (sn2).p with t2 := 0 }, l2 := nilS, hl := hq2 })
  have L3 := L1.row NH1 (wc ({ sn2 with p := { (sn2).p with t2 := 0 }, l2 := nilS, hl := hq2 }))
  go_wp2_with (first | (refine wpList_store_row rfl 63 _ _ rfl (w.heap.size) (wc ({ sn2 with hl := hq2 })) rfl rfl _ _ (by exact TH.X) (by kernel_rfl) (by kernel_rfl) (by kernel_rfl) ?_) | (refine Sub.wpList_store_sub rfl 60 _ _ rfl (w.heap.size) 15 #[.int .u64 0, .slice none 0 0] rfl rfl 63 (wc ({ sn2 with hl := hq2 })) (wc ({ sn2 with p := { (sn2).p with t2 := 0 }, l2 := nilS, hl := hq2 })) (by exact T1.X) (by kernel_rfl) (Nat.le_of_ble_eq_true (by kernel_rfl)) (by kernel_rfl) (by kernel_rfl) ?_))
  obtain ⟨u3, hu3⟩ : ∃ u, u = (q2.setRow (w.heap.size) (wc ({ sn2 with hl := hq2 }))).setRow (w.heap.size) (wc ({ sn2 with p := { (sn2).p with t2 := 0 }, l2 := nilS, hl := hq2 })) := ⟨_, rfl⟩
  rw [← hu3] at T3 L3 ⊢
  have T := T3
  have HP : RowKit.Hid (({ sn2 with p := { (sn2).p with t2 := 0 }, l2 := nilS, hl := hq2 }).p = ({ xn2 with p := { (xn2).p with t2 := 0 }, l2 := [], hl := (xn2).hl ++ (xn2).l2 }).p) := Lib.hid (congrArg (fun p : Pl => { p with t2 := 0 }) HP.out)
  have L : Lies u3 ({ sn2 with p := { (sn2).p with t2 := 0 }, l2 := nilS, hl := hq2 }) ({ xn2 with p := { (xn2).p with t2 := 0 }, l2 := [], hl := (xn2).hl ++ (xn2).l2 }) := ⟨HP.out, L3.rk, L3.l0, L3.l1, Reads.nil _ _, L3.hl, L3.rd⟩
  have N1 : NoB (w.heap.size) ({ sn2 with p := { (sn2).p with t2 := 0 }, l2 := nilS, hl := hq2 }) ({ xn2 with p := { (xn2).p with t2 := 0 }, l2 := [], hl := (xn2).hl ++ (xn2).l2 }) := ⟨NH1.rk, NH1.l0, NH1.l1, .inl rfl, NH1.hl, NH1.rd⟩
  have N2 : NoB (w.heap.size + 1) ({ sn2 with p := { (sn2).p with t2 := 0 }, l2 := nilS, hl := hq2 }) ({ xn2 with p := { (xn2).p with t2 := 0 }, l2 := [], hl := (xn2).hl ++ (xn2).l2 }) := ⟨NH2.rk, NH2.l0, NH2.l1, .inl rfl, NH2.hl, NH2.rd⟩
  have xx := T.X.cells
  have bl := T.lt
  clear hu3 T3 T1 TH L1 L3 NH1 NH2 LH RD hb hbv bq
  have hli : (xn2).l2.length ≤ 200 := (by rw [FX2_1.out]; exact hx.l2)
  have HF : RowKit.Hid (Few 800 ({ xn2 with p := { (xn2).p with t2 := 0 }, l2 := [], hl := (xn2).hl ++ (xn2).l2 })) := Lib.hid ⟨Nat.le_trans HF.out.rk (by omega), Nat.le_trans HF.out.l0 (by omega), Nat.le_trans HF.out.l1 (by omega), Nat.zero_le _, by show ((xn2).hl ++ (xn2).l2).length ≤ _; rw [List.length_append]; have a := HF.out.hl; omega, Nat.le_trans HF.out.rd (by omega)⟩
  clear hli
  obtain ⟨sn3, hsn3⟩ : ∃ t : Wk, t = { sn2 with p := { (sn2).p with t2 := 0 }, l2 := nilS, hl := hq2 } := ⟨_, rfl⟩
  obtain ⟨xn3, hxn3⟩ : ∃ t : St, t = { xn2 with p := { (xn2).p with t2 := 0 }, l2 := [], hl := (xn2).hl ++ (xn2).l2 } := ⟨_, rfl⟩
  have HXN2 := Lib.hid hxn3
  rw [← hsn3] at T xx
  rw [← hsn3, ← hxn3] at L N1 N2 HP
  rw [← hxn3] at HF
  clear hsn3 hxn3
  rw [rounds_succ]
  have HX : RowKit.Hid (ripeS x e = xn3) := Lib.hid (by unfold ripeS; rw [H0.out, H1.out, H2.out]; rw [HXN2.out]; rw [HXN1.out]; rw [HXN0.out]; simp)
  have TZ := T.rowZ (sn3)
  have LZ := L.row N2 (wc (sn3))
  go_wp2_with (first | (refine wpList_load_row rfl 63 _ rfl (w.heap.size) rfl _ (wc (sn3)) (0, 0) _ (by exact T.X) Try.underlying63 rfl (by kernel_rfl) ?_) | (refine wpList_store_row rfl 63 _ _ rfl (w.heap.size + 1) (wc (sn3)) rfl rfl _ _ (by exact T.Z) (by kernel_rfl) (by kernel_rfl) (by kernel_rfl) ?_))
  refine bodyPost_ret (v := wv (sn3)) ?_ rfl ⟨_, rfl, ?_, TZ.below⟩
  · exact results_cell_row (p := 4) (ty := 63) Try.results41 _ _ (w.heap.size + 1) 63 _ (0, 0) _ rfl TZ.Z Try.underlying63 rfl (by kernel_rfl)
  · rw [HX.out]
    exact LZ
set_option maxRecDepth 100000 in
set_option maxHeartbeats 4000000 in
theorem refRipe_yyn (s : Wk) (x : St) (hx : Few 200 x) (e : Int) (he : e < 18446744073709551616) (w : World) (h : Lies w s x) (h0 : ripeB x.p.t0 e = true) (h1 : ripeB x.p.t1 e = true) (h2 : ripeB x.p.t2 e = false) :
    Calls Try.prog 41 #[wv s, .int .u64 e] w fun r w' => ∃ s', r = .returned (wv s') ∧ Lies w' s' (ripeS x e) ∧ Below w.heap.size w w' := by
  have H0 := Lib.hid h0
  have H1 := Lib.hid h1
  have H2 := Lib.hid h2
  clear h0 h1 h2
  have HE := Lib.hid he
  clear he
  have e11 : ∀ s : Wk, (wc s)[11]? = some (.int .u64 s.p.t0) := fun _ => rfl
  have e12 : ∀ s : Wk, (wc s)[12]? = some (.slice s.l0.ad s.l0.len s.l0.cap) := fun _ => rfl
  have e13 : ∀ s : Wk, (wc s)[13]? = some (.int .u64 s.p.t1) := fun _ => rfl
  have e14 : ∀ s : Wk, (wc s)[14]? = some (.slice s.l1.ad s.l1.len s.l1.cap) := fun _ => rfl
  have e15 : ∀ s : Wk, (wc s)[15]? = some (.int .u64 s.p.t2) := fun _ => rfl
  have e16 : ∀ s : Wk, (wc s)[16]? = some (.slice s.l2.ad s.l2.len s.l2.cap) := fun _ => rfl
  have T := Two.start w s
  have L := h.keep T.below
  have HP := Lib.hid h.p
  have HS := Lib.hid h.p
  have HF := Lib.hid hx
  have N1 : NoB (w.heap.size) s x := noB_all h (Nat.le_refl _)
  have N2 : NoB (w.heap.size + 1) s x := noB_all h (by omega)
  have xx := T.X.cells
  have bl := T.lt
  go_enter Try.func41, Try.ntmps41
  go_wp2_with fail
  refine wp_loop_rounds 4 ?_
  rw [rounds_succ]
  go_wp2_with fail
  refine (refIs (t := (s).p.t0) (b := true) (by rw [HS.out]; exact H0.out) _ HE.out).mono ?_
  rintro r z0 ⟨rfl, rfl⟩
  go_wp2_with fail
  refine wp_region_grown_tail 6 (by kernel_rfl) (by kernel_rfl) ?_
  simp only [List.take_succ_cons, List.take_zero, List.drop_succ_cons, List.drop_zero]
  have hg := @gcell
  (refine wpQuiet_load_row rfl 63 _ rfl (w.heap.size) rfl (wc (s)) 63 _ (by rintro _ ⟨n, rfl⟩; exact Bk.keep T.X n.2) Try.underlying63 rfl (by kernel_rfl) ?_; simp only [Act.put, List.setIfInBounds_toArray, List.set_cons_succ, List.set_cons_zero])
  repeat (go_big_quiet_step (fail))
  refine wpQuiet_nil ?_
  rintro v0 ⟨⟨_, hbv⟩, rfl⟩
  clear hg
  have T := T.keep hbv
  have L := L.keep hbv
  clear xx bl
  go_wp2_with fail
  refine (refHold (s) (x) (HF.out.mono (by omega)) (s).l0 (x).l0 (Nat.le_trans HF.out.l0 (by omega)) _ L L.l0).mono ?_
  rintro r q0 ⟨s', rfl, LH, RD, ES, hb⟩
  obtain ⟨hq0, hq'⟩ : ∃ h, h = s'.hl := ⟨_, rfl⟩
  rw [← hq'] at ES RD
  clear hq'
  subst ES
  have bq := T.lt
  have TH := T.keep hb
  have T1 := TH.rowX ({ s with hl := hq0 })
  have NH1 : NoB (w.heap.size) ({ s with hl := hq0 }) (holdS (x) (x).l0) := ⟨N1.rk, N1.l0, N1.l1, N1.l2, RD.2.imp id (fun q a ha => by have := q a ha; omega), N1.rd⟩
  have NH2 : NoB (w.heap.size + 1) ({ s with hl := hq0 }) (holdS (x) (x).l0) := ⟨N2.rk, N2.l0, N2.l1, N2.l2, RD.2.imp id (fun q a ha => by have := q a ha; omega), N2.rd⟩
  have L1 := LH.row NH1 (wc ({ s with hl := hq0 }))
  have T3 := T1.rowX ({ s with p := { (s).p with t0 := 0 }, l0 := nilS, hl := hq0 })
  have L3 := L1.row NH1 (wc ({ s with p := { (s).p with t0 := 0 }, l0 := nilS, hl := hq0 }))
  go_wp2_with (first | (refine wpList_store_row rfl 63 _ _ rfl (w.heap.size) (wc ({ s with hl := hq0 })) rfl rfl _ _ (by exact TH.X) (by kernel_rfl) (by kernel_rfl) (by kernel_rfl) ?_) | (refine Sub.wpList_store_sub rfl 60 _ _ rfl (w.heap.size) 11 #[.int .u64 0, .slice none 0 0] rfl rfl 63 (wc ({ s with hl := hq0 })) (wc ({ s with p := { (s).p with t0 := 0 }, l0 := nilS, hl := hq0 })) (by exact T1.X) (by kernel_rfl) (Nat.le_of_ble_eq_true (by kernel_rfl)) (by kernel_rfl) (by kernel_rfl) ?_))
  obtain ⟨u1, hu1⟩ : ∃ u, u = (q0.setRow (w.heap.size) (wc ({ s with hl := hq0 }))).setRow (w.heap.size) (wc ({ s with p := { (s).p with t0 := 0 }, l0 := nilS, hl := hq0 })) := ⟨_, rfl⟩
  rw [← hu1] at T3 L3 ⊢
  have T := T3
  have HP : RowKit.Hid (({ s with p := { (s).p with t0 := 0 }, l0 := nilS, hl := hq0 }).p = ({ x with p := { (x).p with t0 := 0 }, l0 := [], hl := (x).hl ++ (x).l0 }).p) := Lib.hid (congrArg (fun p : Pl => { p with t0 := 0 }) HP.out)
  have L : Lies u1 ({ s with p := { (s).p with t0 := 0 }, l0 := nilS, hl := hq0 }) ({ x with p := { (x).p with t0 := 0 }, l0 := [], hl := (x).hl ++ (x).l0 }) := ⟨HP.out, L3.rk, Reads.nil _ _, L3.l1, L3.l2, L3.hl, L3.rd⟩
  have N1 : NoB (w.heap.size) ({ s with p := { (s).p with t0 := 0 }, l0 := nilS, hl := hq0 }) ({ x with p := { (x).p with t0 := 0 }, l0 := [], hl := (x).hl ++ (x).l0 }) := ⟨NH1.rk, .inl rfl, NH1.l1, NH1.l2, NH1.hl, NH1.rd⟩
  have N2 : NoB (w.heap.size + 1) ({ s with p := { (s).p with t0 := 0 }, l0 := nilS, hl := hq0 }) ({ x with p := { (x).p with t0 := 0 }, l0 := [], hl := (x).hl ++ (x).l0 }) := ⟨NH2.rk, .inl rfl, NH2.l1, NH2.l2, NH2.hl, NH2.rd⟩
  have xx := T.X.cells
  have bl := T.lt
  clear hu1 T3 T1 TH L1 L3 NH1 NH2 LH RD hb hbv bq
  have hli : (x).l0.length ≤ 200 := hx.l0
  have HF : RowKit.Hid (Few 400 ({ x with p := { (x).p with t0 := 0 }, l0 := [], hl := (x).hl ++ (x).l0 })) := Lib.hid ⟨Nat.le_trans HF.out.rk (by omega), Nat.zero_le _, Nat.le_trans HF.out.l1 (by omega), Nat.le_trans HF.out.l2 (by omega), by show ((x).hl ++ (x).l0).length ≤ _; rw [List.length_append]; have a := HF.out.hl; omega, Nat.le_trans HF.out.rd (by omega)⟩
  clear hli
  obtain ⟨sn1, hsn1⟩ : ∃ t : Wk, t = { s with p := { (s).p with t0 := 0 }, l0 := nilS, hl := hq0 } := ⟨_, rfl⟩
  obtain ⟨xn1, hxn1⟩ : ∃ t : St, t = { x with p := { (x).p with t0 := 0 }, l0 := [], hl := (x).hl ++ (x).l0 } := ⟨_, rfl⟩
  have FT1_0 : RowKit.Hid (sn1.p.t1 = s.p.t1) := Lib.hid (by rw [hsn1])
  have FX1_0 : RowKit.Hid (xn1.l1 = x.l1) := Lib.hid (by rw [hxn1])
  have FT2_0 : RowKit.Hid (sn1.p.t2 = s.p.t2) := Lib.hid (by rw [hsn1])
  have FX2_0 : RowKit.Hid (xn1.l2 = x.l2) := Lib.hid (by rw [hxn1])
  have HXN0 := Lib.hid hxn1
  rw [← hsn1] at T xx
  rw [← hsn1, ← hxn1] at L N1 N2 HP
  rw [← hxn1] at HF
  clear hsn1 hxn1
  rw [rounds_succ]
  go_wp2_with fail
  refine (refIs (t := (sn1).p.t1) (b := true) (by rw [FT1_0.out, HS.out]; exact H1.out) _ HE.out).mono ?_
  rintro r z1 ⟨rfl, rfl⟩
  go_wp2_with fail
  refine wp_region_grown_tail 6 (by kernel_rfl) (by kernel_rfl) ?_
  simp only [List.take_succ_cons, List.take_zero, List.drop_succ_cons, List.drop_zero]
  have hg := @gcell
  (refine wpQuiet_load_row rfl 63 _ rfl (w.heap.size) rfl (wc (sn1)) 63 _ (by rintro _ ⟨n, rfl⟩; exact Bk.keep T.X n.2) Try.underlying63 rfl (by kernel_rfl) ?_; simp only [Act.put, List.setIfInBounds_toArray, List.set_cons_succ, List.set_cons_zero])
  repeat (go_big_quiet_step (fail))
  refine wpQuiet_nil ?_
  rintro v1 ⟨⟨_, hbv⟩, rfl⟩
  clear hg
  have T := T.keep hbv
  have L := L.keep hbv
  clear xx bl
  go_wp2_with fail
  refine (refHold (sn1) (xn1) (HF.out.mono (by omega)) (sn1).l1 (xn1).l1 (Nat.le_trans HF.out.l1 (by omega)) _ L L.l1).mono ?_
  rintro r q1 ⟨s', rfl, LH, RD, ES, hb⟩
  obtain ⟨hq1, hq'⟩ : ∃ h, h = s'.hl := ⟨_, rfl⟩
  rw [← hq'] at ES RD
  clear hq'
  subst ES
  have bq := T.lt
  have TH := T.keep hb
  have T1 := TH.rowX ({ sn1 with hl := hq1 })
  have NH1 : NoB (w.heap.size) ({ sn1 with hl := hq1 }) (holdS (xn1) (xn1).l1) := ⟨N1.rk, N1.l0, N1.l1, N1.l2, RD.2.imp id (fun q a ha => by have := q a ha; omega), N1.rd⟩
  have NH2 : NoB (w.heap.size + 1) ({ sn1 with hl := hq1 }) (holdS (xn1) (xn1).l1) := ⟨N2.rk, N2.l0, N2.l1, N2.l2, RD.2.imp id (fun q a ha => by have := q a ha; omega), N2.rd⟩
  have L1 := LH.row NH1 (wc ({ sn1 with hl := hq1 }))
  have T3 := T1.rowX ({ sn1 with p := { (sn1).p with t1 := 0 }, l1 := nilS, hl := hq1 })
  have L3 := L1.row NH1 (wc ({ sn1 with p := { (sn1).p with t1 := 0 }, l1 := nilS, hl := hq1 }))
  go_wp2_with (first | (refine wpList_store_row rfl 63 _ _ rfl (w.heap.size) (wc ({ sn1 with hl := hq1 })) rfl rfl _ _ (by exact TH.X) (by kernel_rfl) (by kernel_rfl) (by kernel_rfl) ?_) | (refine Sub.wpList_store_sub rfl 60 _ _ rfl (w.heap.size) 13 #[.int .u64 0, .slice none 0 0] rfl rfl 63 (wc ({ sn1 with hl := hq1 })) (wc ({ sn1 with p := { (sn1).p with t1 := 0 }, l1 := nilS, hl := hq1 })) (by exact T1.X) (by kernel_rfl) (Nat.le_of_ble_eq_true (by kernel_rfl)) (by kernel_rfl) (by kernel_rfl) ?_))
  obtain ⟨u2, hu2⟩ : ∃ u, u = (q1.setRow (w.heap.size) (wc ({ sn1 with hl := hq1 }))).setRow (w.heap.size) (wc ({ sn1 with p := { (sn1).p with t1 := 0 }, l1 := nilS, hl := hq1 })) := ⟨_, rfl⟩
  rw [← hu2] at T3 L3 ⊢
  have T := T3
  have HP : RowKit.Hid (({ sn1 with p := { (sn1).p with t1 := 0 }, l1 := nilS, hl := hq1 }).p = ({ xn1 with p := { (xn1).p with t1 := 0 }, l1 := [], hl := (xn1).hl ++ (xn1).l1 }).p) := Lib.hid (congrArg (fun p : Pl => { p with t1 := 0 }) HP.out)
  have L : Lies u2 ({ sn1 with p := { (sn1).p with t1 := 0 }, l1 := nilS, hl := hq1 }) ({ xn1 with p := { (xn1).p with t1 := 0 }, l1 := [], hl := (xn1).hl ++ (xn1).l1 }) := ⟨HP.out, L3.rk, L3.l0, Reads.nil _ _, L3.l2, L3.hl, L3.rd⟩
  have N1 : NoB (w.heap.size) ({ sn1 with p := { (sn1).p with t1 := 0 }, l1 := nilS, hl := hq1 }) ({ xn1 with p := { (xn1).p with t1 := 0 }, l1 := [], hl := (xn1).hl ++ (xn1).l1 }) := ⟨NH1.rk, NH1.l0, .inl rfl, NH1.l2, NH1.hl, NH1.rd⟩
  have N2 : NoB (w.heap.size + 1) ({ sn1 with p := { (sn1).p with t1 := 0 }, l1 := nilS, hl := hq1 }) ({ xn1 with p := { (xn1).p with t1 := 0 }, l1 := [], hl := (xn1).hl ++ (xn1).l1 }) := ⟨NH2.rk, NH2.l0, .inl rfl, NH2.l2, NH2.hl, NH2.rd⟩
  have xx := T.X.cells
  have bl := T.lt
  clear hu2 T3 T1 TH L1 L3 NH1 NH2 LH RD hb hbv bq
  have hli : (xn1).l1.length ≤ 200 := (by rw [FX1_0.out]; exact hx.l1)
  have HF : RowKit.Hid (Few 600 ({ xn1 with p := { (xn1).p with t1 := 0 }, l1 := [], hl := (xn1).hl ++ (xn1).l1 })) := Lib.hid ⟨Nat.le_trans HF.out.rk (by omega), Nat.le_trans HF.out.l0 (by omega), Nat.zero_le _, Nat.le_trans HF.out.l2 (by omega), by show ((xn1).hl ++ (xn1).l1).length ≤ _; rw [List.length_append]; have a := HF.out.hl; omega, Nat.le_trans HF.out.rd (by omega)⟩
  clear hli
  obtain ⟨sn2, hsn2⟩ : ∃ t : Wk, t = { sn1 with p := { (sn1).p with t1 := 0 }, l1 := nilS, hl := hq1 } := ⟨_, rfl⟩
  obtain ⟨xn2, hxn2⟩ : ∃ t : St, t = { xn1 with p := { (xn1).p with t1 := 0 }, l1 := [], hl := (xn1).hl ++ (xn1).l1 } := ⟨_, rfl⟩
  have FT2_1 : RowKit.Hid (sn2.p.t2 = s.p.t2) := Lib.hid (by rw [hsn2]; exact FT2_0.out)
  have FX2_1 : RowKit.Hid (xn2.l2 = x.l2) := Lib.hid (by rw [hxn2]; exact FX2_0.out)
  have HXN1 := Lib.hid hxn2
  rw [← hsn2] at T xx
  rw [← hsn2, ← hxn2] at L N1 N2 HP
  rw [← hxn2] at HF
  clear hsn2 hxn2
  rw [rounds_succ]
  go_wp2_with fail
  refine (refIs (t := (sn2).p.t2) (b := false) (by rw [FT2_1.out, HS.out]; exact H2.out) _ HE.out).mono ?_
  rintro r z2 ⟨rfl, rfl⟩
  go_wp2_with fail
  rw [rounds_succ]
  have HX : RowKit.Hid (ripeS x e = xn2) := Lib.hid (by unfold ripeS; rw [H0.out, H1.out, H2.out]; rw [HXN1.out]; rw [HXN0.out]; simp)
  have TZ := T.rowZ (sn2)
  have LZ := L.row N2 (wc (sn2))
  go_wp2_with (first | (refine wpList_load_row rfl 63 _ rfl (w.heap.size) rfl _ (wc (sn2)) (0, 0) _ (by exact T.X) Try.underlying63 rfl (by kernel_rfl) ?_) | (refine wpList_store_row rfl 63 _ _ rfl (w.heap.size + 1) (wc (sn2)) rfl rfl _ _ (by exact T.Z) (by kernel_rfl) (by kernel_rfl) (by kernel_rfl) ?_))
  refine bodyPost_ret (v := wv (sn2)) ?_ rfl ⟨_, rfl, ?_, TZ.below⟩
  · exact results_cell_row (p := 4) (ty := 63) Try.results41 _ _ (w.heap.size + 1) 63 _ (0, 0) _ rfl TZ.Z Try.underlying63 rfl (by kernel_rfl)
  · rw [HX.out]
    exact LZ
set_option maxRecDepth 100000 in
set_option maxHeartbeats 4000000 in
theorem refRipe_yny (s : Wk) (x : St) (hx : Few 200 x) (e : Int) (he : e < 18446744073709551616) (w : World) (h : Lies w s x) (h0 : ripeB x.p.t0 e = true) (h1 : ripeB x.p.t1 e = false) (h2 : ripeB x.p.t2 e = true) :
    Calls Try.prog 41 #[wv s, .int .u64 e] w fun r w' => ∃ s', r = .returned (wv s') ∧ Lies w' s' (ripeS x e) ∧ Below w.heap.size w w' := by
  have H0 := Lib.hid h0
  have H1 := Lib.hid h1
  have H2 := Lib.hid h2
  clear h0 h1 h2
  have HE := Lib.hid he
  clear he
  have e11 : ∀ s : Wk, (wc s)[11]? = some (.int .u64 s.p.t0) := fun _ => rfl
  have e12 : ∀ s : Wk, (wc s)[12]? = some (.slice s.l0.ad s.l0.len s.l0.cap) := fun _ => rfl
  have e13 : ∀ s : Wk, (wc s)[13]? = some (.int .u64 s.p.t1) := fun _ => rfl
  have e14 : ∀ s : Wk, (wc s)[14]? = some (.slice s.l1.ad s.l1.len s.l1.cap) := fun _ => rfl
  have e15 : ∀ s : Wk, (wc s)[15]? = some (.int .u64 s.p.t2) := fun _ => rfl
  have e16 : ∀ s : Wk, (wc s)[16]? = some (.slice s.l2.ad s.l2.len s.l2.cap) := fun _ => rfl
  have T := Two.start w s
  have L := h.keep T.below
  have HP := Lib.hid h.p
  have HS := Lib.hid h.p
  have HF := Lib.hid hx
  have N1 : NoB (w.heap.size) s x := noB_all h (Nat.le_refl _)
  have N2 : NoB (w.heap.size + 1) s x := noB_all h (by omega)
  have xx := T.X.cells
  have bl := T.lt
  go_enter Try.func41, Try.ntmps41
  go_wp2_with fail
  refine wp_loop_rounds 4 ?_
  rw [rounds_succ]
  go_wp2_with fail
  refine (refIs (t := (s).p.t0) (b := true) (by rw [HS.out]; exact H0.out) _ HE.out).mono ?_
  rintro r z0 ⟨rfl, rfl⟩
  go_wp2_with fail
  refine wp_region_grown_tail 6 (by kernel_rfl) (by kernel_rfl) ?_
  simp only [List.take_succ_cons, List.take_zero, List.drop_succ_cons, List.drop_zero]
  have hg := @gcell
  (refine wpQuiet_load_row rfl 63 _ rfl (w.heap.size) rfl (wc (s)) 63 _ (by rintro _ ⟨n, rfl⟩; exact Bk.keep T.X n.2) Try.underlying63 rfl (by kernel_rfl) ?_; simp only [Act.put, List.setIfInBounds_toArray, List.set_cons_succ, List.set_cons_zero])
  repeat (go_big_quiet_step (fail))
  refine wpQuiet_nil ?_
  rintro v0 ⟨⟨_, hbv⟩, rfl⟩
  clear hg
  have T := T.keep hbv
  have L := L.keep hbv
  clear xx bl
  go_wp2_with fail
  refine (refHold (s) (x) (HF.out.mono (by omega)) (s).l0 (x).l0 (Nat.le_trans HF.out.l0 (by omega)) _ L L.l0).mono ?_
  rintro r q0 ⟨s', rfl, LH, RD, ES, hb⟩
  obtain ⟨hq0, hq'⟩ : ∃ h, h = s'.hl := ⟨_, rfl⟩
  rw [← hq'] at ES RD
  clear hq'
  subst ES
  have bq := T.lt
  have TH := T.keep hb
  have T1 := TH.rowX ({ s with hl := hq0 })
  have NH1 : NoB (w.heap.size) ({ s with hl := hq0 }) (holdS (x) (x).l0) := ⟨N1.rk, N1.l0, N1.l1, N1.l2, RD.2.imp id (fun q a ha => by have := q a ha; omega), N1.rd⟩
  have NH2 : NoB (w.heap.size + 1) ({ s with hl := hq0 }) (holdS (x) (x).l0) := ⟨N2.rk, N2.l0, N2.l1, N2.l2, RD.2.imp id (fun q a ha => by have := q a ha; omega), N2.rd⟩
  have L1 := LH.row NH1 (wc ({ s with hl := hq0 }))
  have T3 := T1.rowX ({ s with p := { (s).p with t0 := 0 }, l0 := nilS, hl := hq0 })
  have L3 := L1.row NH1 (wc ({ s with p := { (s).p with t0 := 0 }, l0 := nilS, hl := hq0 }))
  go_wp2_with (first | (refine wpList_store_row rfl 63 _ _ rfl (w.heap.size) (wc ({ s with hl := hq0 })) rfl rfl _ _ (by exact TH.X) (by kernel_rfl) (by kernel_rfl) (by kernel_rfl) ?_) | (refine Sub.wpList_store_sub rfl 60 _ _ rfl (w.heap.size) 11 #[.int .u64 0, .slice none 0 0] rfl rfl 63 (wc ({ s with hl := hq0 })) (wc ({ s with p := { (s).p with t0 := 0 }, l0 := nilS, hl := hq0 })) (by exact T1.X) (by kernel_rfl) (Nat.le_of_ble_eq_true (by kernel_rfl)) (by kernel_rfl) (by kernel_rfl) ?_))
  obtain ⟨u1, hu1⟩ : ∃ u, u = (q0.setRow (w.heap.size) (wc ({ s with hl := hq0 }))).setRow (w.heap.size) (wc ({ s with p := { (s).p with t0 := 0 }, l0 := nilS, hl := hq0 })) := ⟨_, rfl⟩
  rw [← hu1] at T3 L3 ⊢
  have T := T3
  have HP : RowKit.Hid (({ s with p := { (s).p with t0 := 0 }, l0 := nilS, hl := hq0 }).p = ({ x with p := { (x).p with t0 := 0 }, l0 := [], hl := (x).hl ++ (x).l0 }).p) := Lib.hid (congrArg (fun p : Pl => { p with t0 := 0 }) HP.out)
  have L : Lies u1 ({ s with p := { (s).p with t0 := 0 }, l0 := nilS, hl := hq0 }) ({ x with p := { (x).p with t0 := 0 }, l0 := [], hl := (x).hl ++ (x).l0 }) := ⟨HP.out, L3.rk, Reads.nil _ _, L3.l1, L3.l2, L3.hl, L3.rd⟩
  have N1 : NoB (w.heap.size) ({ s with p := { (s).p with t0 := 0 }, l0 := nilS, hl := hq0 }) ({ x with p := { (x).p with t0 := 0 }, l0 := [], hl := (x).hl ++ (x).l0 }) := ⟨NH1.rk, .inl rfl, NH1.l1, NH1.l2, NH1.hl, NH1.rd⟩
  have N2 : NoB (w.heap.size + 1) ({ s with p := { (s).p with t0 := 0 }, l0 := nilS, hl := hq0 }) ({ x with p := { (x).p with t0 := 0 }, l0 := [], hl := (x).hl ++ (x).l0 }) := ⟨NH2.rk, .inl rfl, NH2.l1, NH2.l2, NH2.hl, NH2.rd⟩
  have xx := T.X.cells
  have bl := T.lt
  clear hu1 T3 T1 TH L1 L3 NH1 NH2 LH RD hb hbv bq
  have hli : (x).l0.length ≤ 200 := hx.l0
  have HF : RowKit.Hid (Few 400 ({ x with p := { (x).p with t0 := 0 }, l0 := [], hl := (x).hl ++ (x).l0 })) := Lib.hid ⟨Nat.le_trans HF.out.rk (by omega), Nat.zero_le _, Nat.le_trans HF.out.l1 (by omega), Nat.le_trans HF.out.l2 (by omega), by show ((x).hl ++ (x).l0).length ≤ _; rw [List.length_append]; have a := HF.out.hl; omega, Nat.le_trans HF.out.rd (by omega)⟩
  clear hli
  obtain ⟨sn1, hsn1⟩ : ∃ t : Wk, t = { s with p := { (s).p with t0 := 0 }, l0 := nilS, hl := hq0 } := ⟨_, rfl⟩
  obtain ⟨xn1, hxn1⟩ : ∃ t : St, t = { x with p := { (x).p with t0 := 0 }, l0 := [], hl := (x).hl ++ (x).l0 } := ⟨_, rfl⟩
  have FT1_0 : RowKit.Hid (sn1.p.t1 = s.p.t1) := Lib.hid (by rw [hsn1])
  have FX1_0 : RowKit.Hid (xn1.l1 = x.l1) := Lib.hid (by rw [hxn1])
  have FT2_0 : RowKit.Hid (sn1.p.t2 = s.p.t2) := Lib.hid (by rw [hsn1])
  have FX2_0 : RowKit.Hid (xn1.l2 = x.l2) := Lib.hid (by rw [hxn1])
  have HXN0 := Lib.hid hxn1
  rw [← hsn1] at T xx
  rw [← hsn1, ← hxn1] at L N1 N2 HP
  rw [← hxn1] at HF
  clear hsn1 hxn1
  rw [rounds_succ]
  go_wp2_with fail
  refine (refIs (t := (sn1).p.t1) (b := false) (by rw [FT1_0.out, HS.out]; exact H1.out) _ HE.out).mono ?_
  rintro r z1 ⟨rfl, rfl⟩
  go_wp2_with fail
  rw [rounds_succ]
  go_wp2_with fail
  refine (refIs (t := (sn1).p.t2) (b := true) (by rw [FT2_0.out, HS.out]; exact H2.out) _ HE.out).mono ?_
  rintro r z2 ⟨rfl, rfl⟩
  go_wp2_with fail
  refine wp_region_grown_tail 6 (by kernel_rfl) (by kernel_rfl) ?_
  simp only [List.take_succ_cons, List.take_zero, List.drop_succ_cons, List.drop_zero]
  have hg := @gcell
  (refine wpQuiet_load_row rfl 63 _ rfl (w.heap.size) rfl (wc (sn1)) 63 _ (by rintro _ ⟨n, rfl⟩; exact Bk.keep T.X n.2) Try.underlying63 rfl (by kernel_rfl) ?_; simp only [Act.put, List.setIfInBounds_toArray, List.set_cons_succ, List.set_cons_zero])
  repeat (go_big_quiet_step (fail))
  refine wpQuiet_nil ?_
  rintro v2 ⟨⟨_, hbv⟩, rfl⟩
  clear hg
  have T := T.keep hbv
  have L := L.keep hbv
  clear xx bl
  go_wp2_with fail
  refine (refHold (sn1) (xn1) (HF.out.mono (by omega)) (sn1).l2 (xn1).l2 (Nat.le_trans HF.out.l2 (by omega)) _ L L.l2).mono ?_
  rintro r q2 ⟨s', rfl, LH, RD, ES, hb⟩
  obtain ⟨hq2, hq'⟩ : ∃ h, h = s'.hl := ⟨_, rfl⟩
  rw [← hq'] at ES RD
  clear hq'
  subst ES
  have bq := T.lt
  have TH := T.keep hb
  have T1 := TH.rowX ({ sn1 with hl := hq2 })
  have NH1 : NoB (w.heap.size) ({ sn1 with hl := hq2 }) (holdS (xn1) (xn1).l2) := ⟨N1.rk, N1.l0, N1.l1, N1.l2, RD.2.imp id (fun q a ha => by have := q a ha; omega), N1.rd⟩
  have NH2 : NoB (w.heap.size + 1) ({ sn1 with hl := hq2 }) (holdS (xn1) (xn1).l2) := ⟨N2.rk, N2.l0, N2.l1, N2.l2, RD.2.imp id (fun q a ha => by have := q a ha; omega), N2.rd⟩
  have L1 := LH.row NH1 (wc ({ sn1 with hl := hq2 }))
  have T3 := T1.rowX ({ sn1 with p := { (sn1).p with t2 := 0 }, l2 := nilS, hl := hq2 })
  have L3 := L1.row NH1 (wc ({ sn1 with p := { (sn1).p with t2 := 0 }, l2 := nilS, hl := hq2 }))
  go_wp2_with (first | (refine wpList_store_row rfl 63 _ _ rfl (w.heap.size) (wc ({ sn1 with hl := hq2 })) rfl rfl _ _ (by exact TH.X) (by kernel_rfl) (by kernel_rfl) (by kernel_rfl) ?_) | (refine Sub.wpList_store_sub rfl 60 _ _ rfl (w.heap.size) 15 #[.int .u64 0, .slice none 0 0] rfl rfl 63 (wc ({ sn1 with hl := hq2 })) (wc ({ sn1 with p := { (sn1).p with t2 := 0 }, l2 := nilS, hl := hq2 })) (by exact T1.X) (by kernel_rfl) (Nat.le_of_ble_eq_true (by kernel_rfl)) (by kernel_rfl) (by kernel_rfl) ?_))
  obtain ⟨u3, hu3⟩ : ∃ u, u = (q2.setRow (w.heap.size) (wc ({ sn1 with hl := hq2 }))).setRow (w.heap.size) (wc ({ sn1 with p := { (sn1).p with t2 := 0 }, l2 := nilS, hl := hq2 })) := ⟨_, rfl⟩
  rw [← hu3] at T3 L3 ⊢
  have T := T3
  have HP : RowKit.Hid (({ sn1 with p := { (sn1).p with t2 := 0 }, l2 := nilS, hl := hq2 }).p = ({ xn1 with p := { (xn1).p with t2 := 0 }, l2 := [], hl := (xn1).hl ++ (xn1).l2 }).p) := Lib.hid (congrArg (fun p : Pl => { p with t2 := 0 }) HP.out)
  have L : Lies u3 ({ sn1 with p := { (sn1).p with t2 := 0 }, l2 := nilS, hl := hq2 }) ({ xn1 with p := { (xn1).p with t2 := 0 }, l2 := [], hl := (xn1).hl ++ (xn1).l2 }) := ⟨HP.out, L3.rk, L3.l0, L3.l1, Reads.nil _ _, L3.hl, L3.rd⟩
  have N1 : NoB (w.heap.size) ({ sn1 with p := { (sn1).p with t2 := 0 }, l2 := nilS, hl := hq2 }) ({ xn1 with p := { (xn1).p with t2 := 0 }, l2 := [], hl := (xn1).hl ++ (xn1).l2 }) := ⟨NH1.rk, NH1.l0, NH1.l1, .inl rfl, NH1.hl, NH1.rd⟩
  have N2 : NoB (w.heap.size + 1) ({ sn1 with p := { (sn1).p with t2 := 0 }, l2 := nilS, hl := hq2 }) ({ xn1 with p := { (xn1).p with t2 := 0 }, l2 := [], hl := (xn1).hl ++ (xn1).l2 }) := ⟨NH2.rk, NH2.l0, NH2.l1, .inl rfl, NH2.hl, NH2.rd⟩
  have xx := T.X.cells
  have bl := T.lt
  clear hu3 T3 T1 TH L1 L3 NH1 NH2 LH RD hb hbv bq
  have hli : (xn1).l2.length ≤ 200 := (by rw [FX2_0.out]; exact hx.l2)
  have HF : RowKit.Hid (Few 600 ({ xn1 with p := { (xn1).p with t2 := 0 }, l2 := [], hl := (xn1).hl ++ (xn1).l2 })) := Lib.hid ⟨Nat.le_trans HF.out.rk (by omega), Nat.le_trans HF.out.l0 (by omega), Nat.le_trans HF.out.l1 (by omega), Nat.zero_le _, by show ((xn1).hl ++ (xn1).l2).length ≤ _; rw [List.length_append]; have a := HF.out.hl; omega, Nat.le_trans HF.out.rd (by omega)⟩
  clear hli
  obtain ⟨sn3, hsn3⟩ : ∃ t : Wk, t = { sn1 with p := { (sn1).p with t2 := 0 }, l2 := nilS, hl := hq2 } := ⟨_, rfl⟩
  obtain ⟨xn3, hxn3⟩ : ∃ t : St, t = { xn1 with p := { (xn1).p with t2 := 0 }, l2 := [], hl := (xn1).hl ++ (xn1).l2 } := ⟨_, rfl⟩
  have HXN2 := Lib.hid hxn3
  rw [← hsn3] at T xx
  rw [← hsn3, ← hxn3] at L N1 N2 HP
  rw [← hxn3] at HF
  clear hsn3 hxn3
  rw [rounds_succ]
  have HX : RowKit.Hid (ripeS x e = xn3) := Lib.hid (by unfold ripeS; rw [H0.out, H1.out, H2.out]; rw [HXN2.out]; rw [HXN0.out]; simp)
  have TZ := T.rowZ (sn3)
  have LZ := L.row N2 (wc (sn3))
  go_wp2_with (first | (refine wpList_load_row rfl 63 _ rfl (w.heap.size) rfl _ (wc (sn3)) (0, 0) _ (by exact T.X) Try.underlying63 rfl (by kernel_rfl) ?_) | (refine wpList_store_row rfl 63 _ _ rfl (w.heap.size + 1) (wc (sn3)) rfl rfl _ _ (by exact T.Z) (by kernel_rfl) (by kernel_rfl) (by kernel_rfl) ?_))
  refine bodyPost_ret (v := wv (sn3)) ?_ rfl ⟨_, rfl, ?_, TZ.below⟩
  · exact results_cell_row (p := 4) (ty := 63) Try.results41 _ _ (w.heap.size + 1) 63 _ (0, 0) _ rfl TZ.Z Try.underlying63 rfl (by kernel_rfl)
  · rw [HX.out]
    exact LZ
set_option maxRecDepth 100000 in
set_option maxHeartbeats 4000000 in
theorem refRipe_ynn (s : Wk) (x : St) (hx : Few 200 x) (e : Int) (he : e < 18446744073709551616) (w : World) (h : Lies w s x) (h0 : ripeB x.p.t0 e = true) (h1 : ripeB x.p.t1 e = false) (h2 : ripeB x.p.t2 e = false) :
    Calls Try.prog 41 #[wv s, .int .u64 e] w fun r w' => ∃ s', r = .returned (wv s') ∧ Lies w' s' (ripeS x e) ∧ Below w.heap.size w w' := by
  have H0 := Lib.hid h0
  have H1 := Lib.hid h1
  have H2 := Lib.hid h2
  clear h0 h1 h2
  have HE := Lib.hid he
  clear he
  have e11 : ∀ s : Wk, (wc s)[11]? = some (.int .u64 s.p.t0) := fun _ => rfl
  have e12 : ∀ s : Wk, (wc s)[12]? = some (.slice s.l0.ad s.l0.len s.l0.cap) := fun _ => rfl
  have e13 : ∀ s : Wk, (wc s)[13]? = some (.int .u64 s.p.t1) := fun _ => rfl
  have e14 : ∀ s : Wk, (wc s)[14]? = some (.slice s.l1.ad s.l1.len s.l1.cap) := fun _ => rfl
  have e15 : ∀ s : Wk, (wc s)[15]? = some (.int .u64 s.p.t2) := fun _ => rfl
  have e16 : ∀ s : Wk, (wc s)[16]? = some (.slice s.l2.ad s.l2.len s.l2.cap) := fun _ => rfl
  have T := Two.start w s
  have L := h.keep T.below
  have HP := Lib.hid h.p
  have HS := Lib.hid h.p
  have HF := Lib.hid hx
  have N1 : NoB (w.heap.size) s x := noB_all h (Nat.le_refl _)
  have N2 : NoB (w.heap.size + 1) s x := noB_all h (by omega)
  have xx := T.X.cells
  have bl := T.lt
  go_enter Try.func41, Try.ntmps41
  go_wp2_with fail
  refine wp_loop_rounds 4 ?_
  rw [rounds_succ]
  go_wp2_with fail
  refine (refIs (t := (s).p.t0) (b := true) (by rw [HS.out]; exact H0.out) _ HE.out).mono ?_
  rintro r z0 ⟨rfl, rfl⟩
  go_wp2_with fail
  refine wp_region_grown_tail 6 (by kernel_rfl) (by kernel_rfl) ?_
  simp only [List.take_succ_cons, List.take_zero, List.drop_succ_cons, List.drop_zero]
  have hg := @gcell
  (refine wpQuiet_load_row rfl 63 _ rfl (w.heap.size) rfl (wc (s)) 63 _ (by rintro _ ⟨n, rfl⟩; exact Bk.keep T.X n.2) Try.underlying63 rfl (by kernel_rfl) ?_; simp only [Act.put, List.setIfInBounds_toArray, List.set_cons_succ, List.set_cons_zero])
  repeat (go_big_quiet_step (fail))
  refine wpQuiet_nil ?_
  rintro v0 ⟨⟨_, hbv⟩, rfl⟩
  clear hg
  have T := T.keep hbv
  have L := L.keep hbv
  clear xx bl
  go_wp2_with fail
  refine (refHold (s) (x) (HF.out.mono (by omega)) (s).l0 (x).l0 (Nat.le_trans HF.out.l0 (by omega)) _ L L.l0).mono ?_
  rintro r q0 ⟨s', rfl, LH, RD, ES, hb⟩
  obtain ⟨hq0, hq'⟩ : ∃ h, h = s'.hl := ⟨_, rfl⟩
  rw [← hq'] at ES RD
  clear hq'
  subst ES
  have bq := T.lt
  have TH := T.keep hb
  have T1 := TH.rowX ({ s with hl := hq0 })
  have NH1 : NoB (w.heap.size) ({ s with hl := hq0 }) (holdS (x) (x).l0) := ⟨N1.rk, N1.l0, N1.l1, N1.l2, RD.2.imp id (fun q a ha => by have := q a ha; omega), N1.rd⟩
  have NH2 : NoB (w.heap.size + 1) ({ s with hl := hq0 }) (holdS (x) (x).l0) := ⟨N2.rk, N2.l0, N2.l1, N2.l2, RD.2.imp id (fun q a ha => by have := q a ha; omega), N2.rd⟩
  have L1 := LH.row NH1 (wc ({ s with hl := hq0 }))
  have T3 := T1.rowX ({ s with p := { (s).p with t0 := 0 }, l0 := nilS, hl := hq0 })
  have L3 := L1.row NH1 (wc ({ s with p := { (s).p with t0 := 0 }, l0 := nilS, hl := hq0 }))
  go_wp2_with (first | (refine wpList_store_row rfl 63 _ _ rfl (w.heap.size) (wc ({ s with hl := hq0 })) rfl rfl _ _ (by exact TH.X) (by kernel_rfl) (by kernel_rfl) (by kernel_rfl) ?_) | (refine Sub.wpList_store_sub rfl 60 _ _ rfl (w.heap.size) 11 #[.int .u64 0, .slice none 0 0] rfl rfl 63 (wc ({ s with hl := hq0 })) (wc ({ s with p := { (s).p with t0 := 0 }, l0 := nilS, hl := hq0 })) (by exact T1.X) (by kernel_rfl) (Nat.le_of_ble_eq_true (by kernel_rfl)) (by kernel_rfl) (by kernel_rfl) ?_))
  obtain ⟨u1, hu1⟩ : ∃ u, u = (q0.setRow (w.heap.size) (wc ({ s with hl := hq0 }))).setRow (w.heap.size) (wc ({ s with p := { (s).p with t0 := 0 }, l0 := nilS, hl := hq0 })) := ⟨_, rfl⟩
  rw [← hu1] at T3 L3 ⊢
  have T := T3
  have HP : RowKit.Hid (({ s with p := { (s).p with t0 := 0 }, l0 := nilS, hl := hq0 }).p = ({ x with p := { (x).p with t0 := 0 }, l0 := [], hl := (x).hl ++ (x).l0 }).p) := Lib.hid (congrArg (fun p : Pl => { p with t0 := 0 }) HP.out)
  have L : Lies u1 ({ s with p := { (s).p with t0 := 0 }, l0 := nilS, hl := hq0 }) ({ x with p := { (x).p with t0 := 0 }, l0 := [], hl := (x).hl ++ (x).l0 }) := ⟨HP.out, L3.rk, Reads.nil _ _, L3.l1, L3.l2, L3.hl, L3.rd⟩
  have N1 : NoB (w.heap.size) ({ s with p := { (s).p with t0 := 0 }, l0 := nilS, hl := hq0 }) ({ x with p := { (x).p with t0 := 0 }, l0 := [], hl := (x).hl ++ (x).l0 }) := ⟨NH1.rk, .inl rfl, NH1.l1, NH1.l2, NH1.hl, NH1.rd⟩
  have N2 : NoB (w.heap.size + 1) ({ s with p := { (s).p with t0 := 0 }, l0 := nilS, hl := hq0 }) ({ x with p := { (x).p with t0 := 0 }, l0 := [], hl := (x).hl ++ (x).l0 }) := ⟨NH2.rk, .inl rfl, NH2.l1, NH2.l2, NH2.hl, NH2.rd⟩
  have xx := T.X.cells
  have bl := T.lt
  clear hu1 T3 T1 TH L1 L3 NH1 NH2 LH RD hb hbv bq
  have hli : (x).l0.length ≤ 200 := hx.l0
  have HF : RowKit.Hid (Few 400 ({ x with p := { (x).p with t0 := 0 }, l0 := [], hl := (x).hl ++ (x).l0 })) := Lib.hid ⟨Nat.le_trans HF.out.rk (by omega), Nat.zero_le _, Nat.le_trans HF.out.l1 (by omega), Nat.le_trans HF.out.l2 (by omega), by show ((x).hl ++ (x).l0).length ≤ _; rw [List.length_append]; have a := HF.out.hl; omega, Nat.le_trans HF.out.rd (by omega)⟩
  clear hli
  obtain ⟨sn1, hsn1⟩ : ∃ t : Wk, t = { s with p := { (s).p with t0 := 0 }, l0 := nilS, hl := hq0 } := ⟨_, rfl⟩
  obtain ⟨xn1, hxn1⟩ : ∃ t : St, t = { x with p := { (x).p with t0 := 0 }, l0 := [], hl := (x).hl ++ (x).l0 } := ⟨_, rfl⟩
  have FT1_0 : RowKit.Hid (sn1.p.t1 = s.p.t1) := Lib.hid (by rw [hsn1])
  have FX1_0 : RowKit.Hid (xn1.l1 = x.l1) := Lib.hid (by rw [hxn1])
  have FT2_0 : RowKit.Hid (sn1.p.t2 = s.p.t2) := Lib.hid (by rw [hsn1])
  have FX2_0 : RowKit.Hid (xn1.l2 = x.l2) := Lib.hid (by rw [hxn1])
  have HXN0 := Lib.hid hxn1
  rw [← hsn1] at T xx
  rw [← hsn1, ← hxn1] at L N1 N2 HP
  rw [← hxn1] at HF
  clear hsn1 hxn1
  rw [rounds_succ]
  go_wp2_with fail
  refine (refIs (t := (sn1).p.t1) (b := false) (by rw [FT1_0.out, HS.out]; exact H1.out) _ HE.out).mono ?_
  rintro r z1 ⟨rfl, rfl⟩
  go_wp2_with fail
  rw [rounds_succ]
  go_wp2_with fail
  refine (refIs (t := (sn1).p.t2) (b := false) (by rw [FT2_0.out, HS.out]; exact H2.out) _ HE.out).mono ?_
  rintro r z2 ⟨rfl, rfl⟩
  go_wp2_with fail
  rw [rounds_succ]
  have HX : RowKit.Hid (ripeS x e = xn1) := Lib.hid (by unfold ripeS; rw [H0.out, H1.out, H2.out]; rw [HXN0.out]; simp)
  have TZ := T.rowZ (sn1)
  have LZ := L.row N2 (wc (sn1))
  go_wp2_with (first | (refine wpList_load_row rfl 63 _ rfl (w.heap.size) rfl _ (wc (sn1)) (0, 0) _ (by exact T.X) Try.underlying63 rfl (by kernel_rfl) ?_) | (refine wpList_store_row rfl 63 _ _ rfl (w.heap.size + 1) (wc (sn1)) rfl rfl _ _ (by exact T.Z) (by kernel_rfl) (by kernel_rfl) (by kernel_rfl) ?_))
  refine bodyPost_ret (v := wv (sn1)) ?_ rfl ⟨_, rfl, ?_, TZ.below⟩
  · exact results_cell_row (p := 4) (ty := 63) Try.results41 _ _ (w.heap.size + 1) 63 _ (0, 0) _ rfl TZ.Z Try.underlying63 rfl (by kernel_rfl)
  · rw [HX.out]
    exact LZ
set_option maxRecDepth 100000 in
set_option maxHeartbeats 4000000 in
theorem refRipe_nyy (s : Wk) (x : St) (hx : Few 200 x) (e : Int) (he : e < 18446744073709551616) (w : World) (h : Lies w s x) (h0 : ripeB x.p.t0 e = false) (h1 : ripeB x.p.t1 e = true) (h2 : ripeB x.p.t2 e = true) :
    Calls Try.prog 41 #[wv s, .int .u64 e] w fun r w' => ∃ s', r = .returned (wv s') ∧ Lies w' s' (ripeS x e) ∧ Below w.heap.size w w' := by
  have H0 := Lib.hid h0
  have H1 := Lib.hid h1
  have H2 := Lib.hid h2
  clear h0 h1 h2
  have HE := Lib.hid he
  clear he
  have e11 : ∀ s : Wk, (wc s)[11]? = some (.int .u64 s.p.t0) := fun _ => rfl
  have e12 : ∀ s : Wk, (wc s)[12]? = some (.slice s.l0.ad s.l0.len s.l0.cap) := fun _ => rfl
  have e13 : ∀ s : Wk, (wc s)[13]? = some (.int .u64 s.p.t1) := fun _ => rfl
  have e14 : ∀ s : Wk, (wc s)[14]? = some (.slice s.l1.ad s.l1.len s.l1.cap) := fun _ => rfl
  have e15 : ∀ s : Wk, (wc s)[15]? = some (.int .u64 s.p.t2) := fun _ => rfl
  have e16 : ∀ s : Wk, (wc s)[16]? = some (.slice s.l2.ad s.l2.len s.l2.cap) := fun _ => rfl
  have T := Two.start w s
  have L := h.keep T.below
  have HP := Lib.hid h.p
  have HS := Lib.hid h.p
  have HF := Lib.hid hx
  have N1 : NoB (w.heap.size) s x := noB_all h (Nat.le_refl _)
  have N2 : NoB (w.heap.size + 1) s x := noB_all h (by omega)
  have xx := T.X.cells
  have bl := T.lt
  go_enter Try.func41, Try.ntmps41
  go_wp2_with fail
  refine wp_loop_rounds 4 ?_
  rw [rounds_succ]
  go_wp2_with fail
  refine (refIs (t := (s).p.t0) (b := false) (by rw [HS.out]; exact H0.out) _ HE.out).mono ?_
  rintro r z0 ⟨rfl, rfl⟩
  go_wp2_with fail
  rw [rounds_succ]
  go_wp2_with fail
  refine (refIs (t := (s).p.t1) (b := true) (by rw [HS.out]; exact H1.out) _ HE.out).mono ?_
  rintro r z1 ⟨rfl, rfl⟩
  go_wp2_with fail
  refine wp_region_grown_tail 6 (by kernel_rfl) (by kernel_rfl) ?_
  simp only [List.take_succ_cons, List.take_zero, List.drop_succ_cons, List.drop_zero]
  have hg := @gcell
  (refine wpQuiet_load_row rfl 63 _ rfl (w.heap.size) rfl (wc (s)) 63 _ (by rintro _ ⟨n, rfl⟩; exact Bk.keep T.X n.2) Try.underlying63 rfl (by kernel_rfl) ?_; simp only [Act.put, List.setIfInBounds_toArray, List.set_cons_succ, List.set_cons_zero])
  repeat (go_big_quiet_step (fail))
  refine wpQuiet_nil ?_
  rintro v1 ⟨⟨_, hbv⟩, rfl⟩
  clear hg
  have T := T.keep hbv
  have L := L.keep hbv
  clear xx bl
  go_wp2_with fail
  refine (refHold (s) (x) (HF.out.mono (by omega)) (s).l1 (x).l1 (Nat.le_trans HF.out.l1 (by omega)) _ L L.l1).mono ?_
  rintro r q1 ⟨s', rfl, LH, RD, ES, hb⟩
  obtain ⟨hq1, hq'⟩ : ∃ h, h = s'.hl := ⟨_, rfl⟩
  rw [← hq'] at ES RD
  clear hq'
  subst ES
  have bq := T.lt
  have TH := T.keep hb
  have T1 := TH.rowX ({ s with hl := hq1 })
  have NH1 : NoB (w.heap.size) ({ s with hl := hq1 }) (holdS (x) (x).l1) := ⟨N1.rk, N1.l0, N1.l1, N1.l2, RD.2.imp id (fun q a ha => by have := q a ha; omega), N1.rd⟩
  have NH2 : NoB (w.heap.size + 1) ({ s with hl := hq1 }) (holdS (x) (x).l1) := ⟨N2.rk, N2.l0, N2.l1, N2.l2, RD.2.imp id (fun q a ha => by have := q a ha; omega), N2.rd⟩
  have L1 := LH.row NH1 (wc ({ s with hl := hq1 }))
  have T3 := T1.rowX ({ s with p := { (s).p with t1 := 0 }, l1 := nilS, hl := hq1 })
  have L3 := L1.row NH1 (wc ({ s with p := { (s).p with t1 := 0 }, l1 := nilS, hl := hq1 }))
  go_wp2_with (first | (refine wpList_store_row rfl 63 _ _ rfl (w.heap.size) (wc ({ s with hl := hq1 })) rfl rfl _ _ (by exact TH.X) (by kernel_rfl) (by kernel_rfl) (by kernel_rfl) ?_) | (refine Sub.wpList_store_sub rfl 60 _ _ rfl (w.heap.size) 13 #[.int .u64 0, .slice none 0 0] rfl rfl 63 (wc ({ s with hl := hq1 })) (wc ({ s with p := { (s).p with t1 := 0 }, l1 := nilS, hl := hq1 })) (by exact T1.X) (by kernel_rfl) (Nat.le_of_ble_eq_true (by kernel_rfl)) (by kernel_rfl) (by kernel_rfl) ?_))
  obtain ⟨u2, hu2⟩ : ∃ u, u = (q1.setRow (w.heap.size) (wc ({ s with hl := hq1 }))).setRow (w.heap.size) (wc ({ s with p := { (s).p with t1 := 0 }, l1 := nilS, hl := hq1 })) := ⟨_, rfl⟩
  rw [← hu2] at T3 L3 ⊢
  have T := T3
  have HP : RowKit.Hid (({ s with p := { (s).p with t1 := 0 }, l1 := nilS, hl := hq1 }).p = ({ x with p := { (x).p with t1 := 0 }, l1 := [], hl := (x).hl ++ (x).l1 }).p) := Lib.hid (congrArg (fun p : Pl => { p with t1 := 0 }) HP.out)
  have L : Lies u2 ({ s with p := { (s).p with t1 := 0 }, l1 := nilS, hl := hq1 }) ({ x with p := { (x).p with t1 := 0 }, l1 := [], hl := (x).hl ++ (x).l1 }) := ⟨HP.out, L3.rk, L3.l0, Reads.nil _ _, L3.l2, L3.hl, L3.rd⟩
  have N1 : NoB (w.heap.size) ({ s with p := { (s).p with t1 := 0 }, l1 := nilS, hl := hq1 }) ({ x with p := { (x).p with t1 := 0 }, l1 := [], hl := (x).hl ++ (x).l1 }) := ⟨NH1.rk, NH1.l0, .inl rfl, NH1.l2, NH1.hl, NH1.rd⟩
  have N2 : NoB (w.heap.size + 1) ({ s with p := { (s).p with t1 := 0 }, l1 := nilS, hl := hq1 }) ({ x with p := { (x).p with t1 := 0 }, l1 := [], hl := (x).hl ++ (x).l1 }) := ⟨NH2.rk, NH2.l0, .inl rfl, NH2.l2, NH2.hl, NH2.rd⟩
  have xx := T.X.cells
  have bl := T.lt
  clear hu2 T3 T1 TH L1 L3 NH1 NH2 LH RD hb hbv bq
  have hli : (x).l1.length ≤ 200 := hx.l1
  have HF : RowKit.Hid (Few 400 ({ x with p := { (x).p with t1 := 0 }, l1 := [], hl := (x).hl ++ (x).l1 })) := Lib.hid ⟨Nat.le_trans HF.out.rk (by omega), Nat.le_trans HF.out.l0 (by omega), Nat.zero_le _, Nat.le_trans HF.out.l2 (by omega), by show ((x).hl ++ (x).l1).length ≤ _; rw [List.length_append]; have a := HF.out.hl; omega, Nat.le_trans HF.out.rd (by omega)⟩
  clear hli
  obtain ⟨sn2, hsn2⟩ : ∃ t : Wk, t = { s with p := { (s).p with t1 := 0 }, l1 := nilS, hl := hq1 } := ⟨_, rfl⟩
  obtain ⟨xn2, hxn2⟩ : ∃ t : St, t = { x with p := { (x).p with t1 := 0 }, l1 := [], hl := (x).hl ++ (x).l1 } := ⟨_, rfl⟩
  have FT2_1 : RowKit.Hid (sn2.p.t2 = s.p.t2) := Lib.hid (by rw [hsn2])
  have FX2_1 : RowKit.Hid (xn2.l2 = x.l2) := Lib.hid (by rw [hxn2])
  have HXN1 := Lib.hid hxn2
  rw [← hsn2] at T xx
  rw [← hsn2, ← hxn2] at L N1 N2 HP
  rw [← hxn2] at HF
  clear hsn2 hxn2
  rw [rounds_succ]
  go_wp2_with fail
  refine (refIs (t := (sn2).p.t2) (b := true) (by rw [FT2_1.out, HS.out]; exact H2.out) _ HE.out).mono ?_
  rintro r z2 ⟨rfl, rfl⟩
  go_wp2_with fail
  refine wp_region_grown_tail 6 (by kernel_rfl) (by kernel_rfl) ?_
  simp only [List.take_succ_cons, List.take_zero, List.drop_succ_cons, List.drop_zero]
  have hg := @gcell
  (refine wpQuiet_load_row rfl 63 _ rfl (w.heap.size) rfl (wc (sn2)) 63 _ (by rintro _ ⟨n, rfl⟩; exact Bk.keep T.X n.2) Try.underlying63 rfl (by kernel_rfl) ?_; simp only [Act.put, List.setIfInBounds_toArray, List.set_cons_succ, List.set_cons_zero])
  repeat (go_big_quiet_step (fail))
  refine wpQuiet_nil ?_
  rintro v2 ⟨⟨_, hbv⟩, rfl⟩
  clear hg
  have T := T.keep hbv
  have L := L.keep hbv
  clear xx bl
  go_wp2_with fail
  refine (refHold (sn2) (xn2) (HF.out.mono (by omega)) (sn2).l2 (xn2).l2 (Nat.le_trans HF.out.l2 (by omega)) _ L L.l2).mono ?_
  rintro r q2 ⟨s', rfl, LH, RD, ES, hb⟩
  obtain ⟨hq2, hq'⟩ : ∃ h, h = s'.hl := ⟨_, rfl⟩
  rw [← hq'] at ES RD
  clear hq'
  subst ES
  have bq := T.lt
  have TH := T.keep hb
  have T1 := TH.rowX ({ sn2 with hl := hq2 })
  have NH1 : NoB (w.heap.size) ({ sn2 with hl := hq2 }) (holdS (xn2) (xn2).l2) := ⟨N1.rk, N1.l0, N1.l1, N1.l2, RD.2.imp id (fun q a ha => by have := q a ha; omega), N1.rd⟩
  have NH2 : NoB (w.heap.size + 1) ({ sn2 with hl := hq2 }) (holdS (xn2) (xn2).l2) := ⟨N2.rk, N2.l0, N2.l1, N2.l2, RD.2.imp id (fun q a ha => by have := q a ha; omega), N2.rd⟩
  have L1 := LH.row NH1 (wc ({ sn2 with hl := hq2 }))
  have T3 := T1.rowX ({ sn2 with p := { (sn2).p with t2 := 0 }, l2 := nilS, hl := hq2 })
  have L3 := L1.row NH1 (wc ({ sn2 with p := { (sn2).p with t2 := 0 }, l2 := nilS, hl := hq2 }))
  go_wp2_with (first | (refine wpList_store_row rfl 63 _ _ rfl (w.heap.size) (wc ({ sn2 with hl := hq2 })) rfl rfl _ _ (by exact TH.X) (by kernel_rfl) (by kernel_rfl) (by kernel_rfl) ?_) | (refine Sub.wpList_store_sub rfl 60 _ _ rfl (w.heap.size) 15 #[.int .u64 0, .slice none 0 0] rfl rfl 63 (wc ({ sn2 with hl := hq2 })) (wc ({ sn2 with p := { (sn2).p with t2 := 0 }, l2 := nilS, hl := hq2 })) (by exact T1.X) (by kernel_rfl) (Nat.le_of_ble_eq_true (by kernel_rfl)) (by kernel_rfl) (by kernel_rfl) ?_))
  obtain ⟨u3, hu3⟩ : ∃ u, u = (q2.setRow (w.heap.size) (wc ({ sn2 with hl := hq2 }))).setRow (w.heap.size) (wc ({ sn2 with p := { (sn2).p with t2 := 0 }, l2 := nilS, hl := hq2 })) := ⟨_, rfl⟩
  rw [← hu3] at T3 L3 ⊢
  have T := T3
  have HP : RowKit.Hid (({ sn2 with p := { (sn2).p with t2 := 0 }, l2 := nilS, hl := hq2 }).p = ({ xn2 with p := { (xn2).p with t2 := 0 }, l2 := [], hl := (xn2).hl ++ (xn2).l2 }).p) := Lib.hid (congrArg (fun p : Pl => { p with t2 := 0 }) HP.out)
  have L : Lies u3 ({ sn2 with p := { (sn2).p with t2 := 0 }, l2 := nilS, hl := hq2 }) ({ xn2 with p := { (xn2).p with t2 := 0 }, l2 := [], hl := (xn2).hl ++ (xn2).l2 }) := ⟨HP.out, L3.rk, L3.l0, L3.l1, Reads.nil _ _, L3.hl, L3.rd⟩
  have N1 : NoB (w.heap.size) ({ sn2 with p := { (sn2).p with t2 := 0 }, l2 := nilS, hl := hq2 }) ({ xn2 with p := { (xn2).p with t2 := 0 }, l2 := [], hl := (xn2).hl ++ (xn2).l2 }) := ⟨NH1.rk, NH1.l0, NH1.l1, .inl rfl, NH1.hl, NH1.rd⟩
  have N2 : NoB (w.heap.size + 1) ({ sn2 with p := { (sn2).p with t2 := 0 }, l2 := nilS, hl := hq2 }) ({ xn2 with p := { (xn2).p with t2 := 0 }, l2 := [], hl := (xn2).hl ++ (xn2).l2 }) := ⟨NH2.rk, NH2.l0, NH2.l1, .inl rfl, NH2.hl, NH2.rd⟩
  have xx := T.X.cells
  have bl := T.lt
  clear hu3 T3 T1 TH L1 L3 NH1 NH2 LH RD hb hbv bq
  have hli : (xn2).l2.length ≤ 200 := (by rw [FX2_1.out]; exact hx.l2)
  have HF : RowKit.Hid (Few 600 ({ xn2 with p := { (xn2).p with t2 := 0 }, l2 := [], hl := (xn2).hl ++ (xn2).l2 })) := Lib.hid ⟨Nat.le_trans HF.out.rk (by omega), Nat.le_trans HF.out.l0 (by omega), Nat.le_trans HF.out.l1 (by omega), Nat.zero_le _, by show ((xn2).hl ++ (xn2).l2).length ≤ _; rw [List.length_append]; have a := HF.out.hl; omega, Nat.le_trans HF.out.rd (by omega)⟩
  clear hli
  obtain ⟨sn3, hsn3⟩ : ∃ t : Wk, t = { sn2 with p := { (sn2).p with t2 := 0 }, l2 := nilS, hl := hq2 } := ⟨_, rfl⟩
  obtain ⟨xn3, hxn3⟩ : ∃ t : St, t = { xn2 with p := { (xn2).p with t2 := 0 }, l2 := [], hl := (xn2).hl ++ (xn2).l2 } := ⟨_, rfl⟩
  have HXN2 := Lib.hid hxn3
  rw [← hsn3] at T xx
  rw [← hsn3, ← hxn3] at L N1 N2 HP
  rw [← hxn3] at HF
  clear hsn3 hxn3
  rw [rounds_succ]
  have HX : RowKit.Hid (ripeS x e = xn3) := Lib.hid (by unfold ripeS; rw [H0.out, H1.out, H2.out]; rw [HXN2.out]; rw [HXN1.out]; simp)
  have TZ := T.rowZ (sn3)
  have LZ := L.row N2 (wc (sn3))
  go_wp2_with (first | (refine wpList_load_row rfl 63 _ rfl (w.heap.size) rfl _ (wc (sn3)) (0, 0) _ (by exact T.X) Try.underlying63 rfl (by kernel_rfl) ?_) | (refine wpList_store_row rfl 63 _ _ rfl (w.heap.size + 1) (wc (sn3)) rfl rfl _ _ (by exact T.Z) (by kernel_rfl) (by kernel_rfl) (by kernel_rfl) ?_))
  refine bodyPost_ret (v := wv (sn3)) ?_ rfl ⟨_, rfl, ?_, TZ.below⟩
  · exact results_cell_row (p := 4) (ty := 63) Try.results41 _ _ (w.heap.size + 1) 63 _ (0, 0) _ rfl TZ.Z Try.underlying63 rfl (by kernel_rfl)
  · rw [HX.out]
    exact LZ
set_option maxRecDepth 100000 in
set_option maxHeartbeats 4000000 in
theorem refRipe_nyn (s : Wk) (x : St) (hx : Few 200 x) (e : Int) (he : e < 18446744073709551616) (w : World) (h : Lies w s x) (h0 : ripeB x.p.t0 e = false) (h1 : ripeB x.p.t1 e = true) (h2 : ripeB x.p.t2 e = false) :
    Calls Try.prog 41 #[wv s, .int .u64 e] w fun r w' => ∃ s', r = .returned (wv s') ∧ Lies w' s' (ripeS x e) ∧ Below w.heap.size w w' := by
  have H0 := Lib.hid h0
  have H1 := Lib.hid h1
  have H2 := Lib.hid h2
  clear h0 h1 h2
  have HE := Lib.hid he
  clear he
  have e11 : ∀ s : Wk, (wc s)[11]? = some (.int .u64 s.p.t0) := fun _ => rfl
  have e12 : ∀ s : Wk, (wc s)[12]? = some (.slice s.l0.ad s.l0.len s.l0.cap) := fun _ => rfl
  have e13 : ∀ s : Wk, (wc s)[13]? = some (.int .u64 s.p.t1) := fun _ => rfl
  have e14 : ∀ s : Wk, (wc s)[14]? = some (.slice s.l1.ad s.l1.len s.l1.cap) := fun _ => rfl
  have e15 : ∀ s : Wk, (wc s)[15]? = some (.int .u64 s.p.t2) := fun _ => rfl
  have e16 : ∀ s : Wk, (wc s)[16]? = some (.slice s.l2.ad s.l2.len s.l2.cap) := fun _ => rfl
  have T := Two.start w s
  have L := h.keep T.below
  have HP := Lib.hid h.p
  have HS := Lib.hid h.p
  have HF := Lib.hid hx
  have N1 : NoB (w.heap.size) s x := noB_all h (Nat.le_refl _)
  have N2 : NoB (w.heap.size + 1) s x := noB_all h (by omega)
  have xx := T.X.cells
  have bl := T.lt
  go_enter Try.func41, Try.ntmps41
  go_wp2_with fail
  refine wp_loop_rounds 4 ?_
  rw [rounds_succ]
  go_wp2_with fail
  refine (refIs (t := (s).p.t0) (b := false) (by rw [HS.out]; exact H0.out) _ HE.out).mono ?_
  rintro r z0 ⟨rfl, rfl⟩
  go_wp2_with fail
  rw [rounds_succ]
  go_wp2_with fail
  refine (refIs (t := (s).p.t1) (b := true) (by rw [HS.out]; exact H1.out) _ HE.out).mono ?_
  rintro r z1 ⟨rfl, rfl⟩
  go_wp2_with fail
  refine wp_region_grown_tail 6 (by kernel_rfl) (by kernel_rfl) ?_
  simp only [List.take_succ_cons, List.take_zero, List.drop_succ_cons, List.drop_zero]
  have hg := @gcell
  (refine wpQuiet_load_row rfl 63 _ rfl (w.heap.size) rfl (wc (s)) 63 _ (by rintro _ ⟨n, rfl⟩; exact Bk.keep T.X n.2) Try.underlying63 rfl (by kernel_rfl) ?_; simp only [Act.put, List.setIfInBounds_toArray, List.set_cons_succ, List.set_cons_zero])
  repeat (go_big_quiet_step (fail))
  refine wpQuiet_nil ?_
  rintro v1 ⟨⟨_, hbv⟩, rfl⟩
  clear hg
  have T := T.keep hbv
  have L := L.keep hbv
  clear xx bl
  go_wp2_with fail
  refine (refHold (s) (x) (HF.out.mono (by omega)) (s).l1 (x).l1 (Nat.le_trans HF.out.l1 (by omega)) _ L L.l1).mono ?_
  rintro r q1 ⟨s', rfl, LH, RD, ES, hb⟩
  obtain ⟨hq1, hq'⟩ : ∃ h, h = s'.hl := ⟨_, rfl⟩
  rw [← hq'] at ES RD
  clear hq'
  subst ES
  have bq := T.lt
  have TH := T.keep hb
  have T1 := TH.rowX ({ s with hl := hq1 })
  have NH1 : NoB (w.heap.size) ({ s with hl := hq1 }) (holdS (x) (x).l1) := ⟨N1.rk, N1.l0, N1.l1, N1.l2, RD.2.imp id (fun q a ha => by have := q a ha; omega), N1.rd⟩
  have NH2 : NoB (w.heap.size + 1) ({ s with hl := hq1 }) (holdS (x) (x).l1) := ⟨N2.rk, N2.l0, N2.l1, N2.l2, RD.2.imp id (fun q a ha => by have := q a ha; omega), N2.rd⟩
  have L1 := LH.row NH1 (wc ({ s with hl := hq1 }))
  have T3 := T1.rowX ({ s with p := { (s).p with t1 := 0 }, l1 := nilS, hl := hq1 })
  have L3 := L1.row NH1 (wc ({ s with p := { (s).p with t1 := 0 }, l1 := nilS, hl := hq1 }))
  go_wp2_with (first | (refine wpList_store_row rfl 63 _ _ rfl (w.heap.size) (wc ({ s with hl := hq1 })) rfl rfl _ _ (by exact TH.X) (by kernel_rfl) (by kernel_rfl) (by kernel_rfl) ?_) | (refine Sub.wpList_store_sub rfl 60 _ _ rfl (w.heap.size) 13 #[.int .u64 0, .slice none 0 0] rfl rfl 63 (wc ({ s with hl := hq1 })) (wc ({ s with p := { (s).p with t1 := 0 }, l1 := nilS, hl := hq1 })) (by exact T1.X) (by kernel_rfl) (Nat.le_of_ble_eq_true (by kernel_rfl)) (by kernel_rfl) (by kernel_rfl) ?_))
  obtain ⟨u2, hu2⟩ : ∃ u, u = (q1.setRow (w.heap.size) (wc ({ s with hl := hq1 }))).setRow (w.heap.size) (wc ({ s with p := { (s).p with t1 := 0 }, l1 := nilS, hl := hq1 })) := ⟨_, rfl⟩
  rw [← hu2] at T3 L3 ⊢
  have T := T3
  have HP : RowKit.Hid (({ s with p := { (s).p with t1 := 0 }, l1 := nilS, hl := hq1 }).p = ({ x with p := { (x).p with t1 := 0 }, l1 := [], hl := (x).hl ++ (x).l1 }).p) := Lib.hid (congrArg (fun p : Pl => { p with t1 := 0 }) HP.out)
  have L : Lies u2 ({ s with p := { (s).p with t1 := 0 }, l1 := nilS, hl := hq1 }) ({ x with p := { (x).p with t1 := 0 }, l1 := [], hl := (x).hl ++ (x).l1 }) := ⟨HP.out, L3.rk, L3.l0, Reads.nil _ _, L3.l2, L3.hl, L3.rd⟩
  have N1 : NoB (w.heap.size) ({ s with p := { (s).p with t1 := 0 }, l1 := nilS, hl := hq1 }) ({ x with p := { (x).p with t1 := 0 }, l1 := [], hl := (x).hl ++ (x).l1 }) := ⟨NH1.rk, NH1.l0, .inl rfl, NH1.l2, NH1.hl, NH1.rd⟩
  have N2 : NoB (w.heap.size + 1) ({ s with p := { (s).p with t1 := 0 }, l1 := nilS, hl := hq1 }) ({ x with p := { (x).p with t1 := 0 }, l1 := [], hl := (x).hl ++ (x).l1 }) := ⟨NH2.rk, NH2.l0, .inl rfl, NH2.l2, NH2.hl, NH2.rd⟩
  have xx := T.X.cells
  have bl := T.lt
  clear hu2 T3 T1 TH L1 L3 NH1 NH2 LH RD hb hbv bq
  have hli : (x).l1.length ≤ 200 := hx.l1
  have HF : RowKit.Hid (Few 400 ({ x with p := { (x).p with t1 := 0 }, l1 := [], hl := (x).hl ++ (x).l1 })) := Lib.hid ⟨Nat.le_trans HF.out.rk (by omega), Nat.le_trans HF.out.l0 (by omega), Nat.zero_le _, Nat.le_trans HF.out.l2 (by omega), by show ((x).hl ++ (x).l1).length ≤ _; rw [List.length_append]; have a := HF.out.hl; omega, Nat.le_trans HF.out.rd (by omega)⟩
  clear hli
  obtain ⟨sn2, hsn2⟩ : ∃ t : Wk, t = { s with p := { (s).p with t1 := 0 }, l1 := nilS, hl := hq1 } := ⟨_, rfl⟩
  obtain ⟨xn2, hxn2⟩ : ∃ t : St, t = { x with p := { (x).p with t1 := 0 }, l1 := [], hl := (x).hl ++ (x).l1 } := ⟨_, rfl⟩
  have FT2_1 : RowKit.Hid (sn2.p.t2 = s.p.t2) := Lib.hid (by rw [hsn2])
  have FX2_1 : RowKit.Hid (xn2.l2 = x.l2) := Lib.hid (by rw [hxn2])
  have HXN1 := Lib.hid hxn2
  rw [← hsn2] at T xx
  rw [← hsn2, ← hxn2] at L N1 N2 HP
  rw [← hxn2] at HF
  clear hsn2 hxn2
  rw [rounds_succ]
  go_wp2_with fail
  refine (refIs (t := (sn2).p.t2) (b := false) (by rw [FT2_1.out, HS.out]; exact H2.out) _ HE.out).mono ?_
  rintro r z2 ⟨rfl, rfl⟩
  go_wp2_with fail
  rw [rounds_succ]
  have HX : RowKit.Hid (ripeS x e = xn2) := Lib.hid (by unfold ripeS; rw [H0.out, H1.out, H2.out]; rw [HXN1.out]; simp)
  have TZ := T.rowZ (sn2)
  have LZ := L.row N2 (wc (sn2))
  go_wp2_with (first | (refine wpList_load_row rfl 63 _ rfl (w.heap.size) rfl _ (wc (sn2)) (0, 0) _ (by exact T.X) Try.underlying63 rfl (by kernel_rfl) ?_) | (refine wpList_store_row rfl 63 _ _ rfl (w.heap.size + 1) (wc (sn2)) rfl rfl _ _ (by exact T.Z) (by kernel_rfl) (by kernel_rfl) (by kernel_rfl) ?_))
  refine bodyPost_ret (v := wv (sn2)) ?_ rfl ⟨_, rfl, ?_, TZ.below⟩
  · exact results_cell_row (p := 4) (ty := 63) Try.results41 _ _ (w.heap.size + 1) 63 _ (0, 0) _ rfl TZ.Z Try.underlying63 rfl (by kernel_rfl)
  · rw [HX.out]
    exact LZ
set_option maxRecDepth 100000 in
set_option maxHeartbeats 4000000 in
theorem refRipe_nny (s : Wk) (x : St) (hx : Few 200 x) (e : Int) (he : e < 18446744073709551616) (w : World) (h : Lies w s x) (h0 : ripeB x.p.t0 e = false) (h1 : ripeB x.p.t1 e = false) (h2 : ripeB x.p.t2 e = true) :
    Calls Try.prog 41 #[wv s, .int .u64 e] w fun r w' => ∃ s', r = .returned (wv s') ∧ Lies w' s' (ripeS x e) ∧ Below w.heap.size w w' := by
  have H0 := Lib.hid h0
  have H1 := Lib.hid h1
  have H2 := Lib.hid h2
  clear h0 h1 h2
  have HE := Lib.hid he
  clear he
  have e11 : ∀ s : Wk, (wc s)[11]? = some (.int .u64 s.p.t0) := fun _ => rfl
  have e12 : ∀ s : Wk, (wc s)[12]? = some (.slice s.l0.ad s.l0.len s.l0.cap) := fun _ => rfl
  have e13 : ∀ s : Wk, (wc s)[13]? = some (.int .u64 s.p.t1) := fun _ => rfl
  have e14 : ∀ s : Wk, (wc s)[14]? = some (.slice s.l1.ad s.l1.len s.l1.cap) := fun _ => rfl
  have e15 : ∀ s : Wk, (wc s)[15]? = some (.int .u64 s.p.t2) := fun _ => rfl
  have e16 : ∀ s : Wk, (wc s)[16]? = some (.slice s.l2.ad s.l2.len s.l2.cap) := fun _ => rfl
  have T := Two.start w s
  have L := h.keep T.below
  have HP := Lib.hid h.p
  have HS := Lib.hid h.p
  have HF := Lib.hid hx
  have N1 : NoB (w.heap.size) s x := noB_all h (Nat.le_refl _)
  have N2 : NoB (w.heap.size + 1) s x := noB_all h (by omega)
  have xx := T.X.cells
  have bl := T.lt
  go_enter Try.func41, Try.ntmps41
  go_wp2_with fail
  refine wp_loop_rounds 4 ?_
  rw [rounds_succ]
  go_wp2_with fail
  refine (refIs (t := (s).p.t0) (b := false) (by rw [HS.out]; exact H0.out) _ HE.out).mono ?_
  rintro r z0 ⟨rfl, rfl⟩
  go_wp2_with fail
  rw [rounds_succ]
  go_wp2_with fail
  refine (refIs (t := (s).p.t1) (b := false) (by rw [HS.out]; exact H1.out) _ HE.out).mono ?_
  rintro r z1 ⟨rfl, rfl⟩
  go_wp2_with fail
  rw [rounds_succ]
  go_wp2_with fail
  refine (refIs (t := (s).p.t2) (b := true) (by rw [HS.out]; exact H2.out) _ HE.out).mono ?_
  rintro r z2 ⟨rfl, rfl⟩
  go_wp2_with fail
  refine wp_region_grown_tail 6 (by kernel_rfl) (by kernel_rfl) ?_
  simp only [List.take_succ_cons, List.take_zero, List.drop_succ_cons, List.drop_zero]
  have hg := @gcell
  (refine wpQuiet_load_row rfl 63 _ rfl (w.heap.size) rfl (wc (s)) 63 _ (by rintro _ ⟨n, rfl⟩; exact Bk.keep T.X n.2) Try.underlying63 rfl (by kernel_rfl) ?_; simp only [Act.put, List.setIfInBounds_toArray, List.set_cons_succ, List.set_cons_zero])
  repeat (go_big_quiet_step (fail))
  refine wpQuiet_nil ?_
  rintro v2 ⟨⟨_, hbv⟩, rfl⟩
  clear hg
  have T := T.keep hbv
  have L := L.keep hbv
  clear xx bl
  go_wp2_with fail
  refine (refHold (s) (x) (HF.out.mono (by omega)) (s).l2 (x).l2 (Nat.le_trans HF.out.l2 (by omega)) _ L L.l2).mono ?_
  rintro r q2 ⟨s', rfl, LH, RD, ES, hb⟩
  obtain ⟨hq2, hq'⟩ : ∃ h, h = s'.hl := ⟨_, rfl⟩
  rw [← hq'] at ES RD
  clear hq'
  subst ES
  have bq := T.lt
  have TH := T.keep hb
  have T1 := TH.rowX ({ s with hl := hq2 })
  have NH1 : NoB (w.heap.size) ({ s with hl := hq2 }) (holdS (x) (x).l2) := ⟨N1.rk, N1.l0, N1.l1, N1.l2, RD.2.imp id (fun q a ha => by have := q a ha; omega), N1.rd⟩
  have NH2 : NoB (w.heap.size + 1) ({ s with hl := hq2 }) (holdS (x) (x).l2) := ⟨N2.rk, N2.l0, N2.l1, N2.l2, RD.2.imp id (fun q a ha => by have := q a ha; omega), N2.rd⟩
  have L1 := LH.row NH1 (wc ({ s with hl := hq2 }))
  have T3 := T1.rowX ({ s with p := { (s).p with t2 := 0 }, l2 := nilS, hl := hq2 })
  have L3 := L1.row NH1 (wc ({ s with p := { (s).p with t2 := 0 }, l2 := nilS, hl := hq2 }))
  go_wp2_with (first | (refine wpList_store_row rfl 63 _ _ rfl (w.heap.size) (wc ({ s with hl := hq2 })) rfl rfl _ _ (by exact TH.X) (by kernel_rfl) (by kernel_rfl) (by kernel_rfl) ?_) | (refine Sub.wpList_store_sub rfl 60 _ _ rfl (w.heap.size) 15 #[.int .u64 0, .slice none 0 0] rfl rfl 63 (wc ({ s with hl := hq2 })) (wc ({ s with p := { (s).p with t2 := 0 }, l2 := nilS, hl := hq2 })) (by exact T1.X) (by kernel_rfl) (Nat.le_of_ble_eq_true (by kernel_rfl)) (by kernel_rfl) (by kernel_rfl) ?_))
  obtain ⟨u3, hu3⟩ : ∃ u, u = (q2.setRow (w.heap.size) (wc ({ s with hl := hq2 }))).setRow (w.heap.size) (wc ({ s with p := { (s).p with t2 := 0 }, l2 := nilS, hl := hq2 })) := ⟨_, rfl⟩
  rw [← hu3] at T3 L3 ⊢
  have T := T3
  have HP : RowKit.Hid (({ s with p := { (s).p with t2 := 0 }, l2 := nilS, hl := hq2 }).p = ({ x with p := { (x).p with t2 := 0 }, l2 := [], hl := (x).hl ++ (x).l2 }).p) := Lib.hid (congrArg (fun p : Pl => { p with t2 := 0 }) HP.out)
  have L : Lies u3 ({ s with p := { (s).p with t2 := 0 }, l2 := nilS, hl := hq2 }) ({ x with p := { (x).p with t2 := 0 }, l2 := [], hl := (x).hl ++ (x).l2 }) := ⟨HP.out, L3.rk, L3.l0, L3.l1, Reads.nil _ _, L3.hl, L3.rd⟩
  have N1 : NoB (w.heap.size) ({ s with p := { (s).p with t2 := 0 }, l2 := nilS, hl := hq2 }) ({ x with p := { (x).p with t2 := 0 }, l2 := [], hl := (x).hl ++ (x).l2 }) := ⟨NH1.rk, NH1.l0, NH1.l1, .inl rfl, NH1.hl, NH1.rd⟩
  have N2 : NoB (w.heap.size + 1) ({ s with p := { (s).p with t2 := 0 }, l2 := nilS, hl := hq2 }) ({ x with p := { (x).p with t2 := 0 }, l2 := [], hl := (x).hl ++ (x).l2 }) := ⟨NH2.rk, NH2.l0, NH2.l1, .inl rfl, NH2.hl, NH2.rd⟩
  have xx := T.X.cells
  have bl := T.lt
  clear hu3 T3 T1 TH L1 L3 NH1 NH2 LH RD hb hbv bq
  have hli : (x).l2.length ≤ 200 := hx.l2
  have HF : RowKit.Hid (Few 400 ({ x with p := { (x).p with t2 := 0 }, l2 := [], hl := (x).hl ++ (x).l2 })) := Lib.hid ⟨Nat.le_trans HF.out.rk (by omega), Nat.le_trans HF.out.l0 (by omega), Nat.le_trans HF.out.l1 (by omega), Nat.zero_le _, by show ((x).hl ++ (x).l2).length ≤ _; rw [List.length_append]; have a := HF.out.hl; omega, Nat.le_trans HF.out.rd (by omega)⟩
  clear hli
  obtain ⟨sn3, hsn3⟩ : ∃ t : Wk, t = { s with p := { (s).p with t2 := 0 }, l2 := nilS, hl := hq2 } := ⟨_, rfl⟩
  obtain ⟨xn3, hxn3⟩ : ∃ t : St, t = { x with p := { (x).p with t2 := 0 }, l2 := [], hl := (x).hl ++ (x).l2 } := ⟨_, rfl⟩
  have HXN2 := Lib.hid hxn3
  rw [← hsn3] at T xx
  rw [← hsn3, ← hxn3] at L N1 N2 HP
  rw [← hxn3] at HF
  clear hsn3 hxn3
  rw [rounds_succ]
  have HX : RowKit.Hid (ripeS x e = xn3) := Lib.hid (by unfold ripeS; rw [H0.out, H1.out, H2.out]; rw [HXN2.out]; simp)
  have TZ := T.rowZ (sn3)
  have LZ := L.row N2 (wc (sn3))
  go_wp2_with (first | (refine wpList_load_row rfl 63 _ rfl (w.heap.size) rfl _ (wc (sn3)) (0, 0) _ (by exact T.X) Try.underlying63 rfl (by kernel_rfl) ?_) | (refine wpList_store_row rfl 63 _ _ rfl (w.heap.size + 1) (wc (sn3)) rfl rfl _ _ (by exact T.Z) (by kernel_rfl) (by kernel_rfl) (by kernel_rfl) ?_))
  refine bodyPost_ret (v := wv (sn3)) ?_ rfl ⟨_, rfl, ?_, TZ.below⟩
  · exact results_cell_row (p := 4) (ty := 63) Try.results41 _ _ (w.heap.size + 1) 63 _ (0, 0) _ rfl TZ.Z Try.underlying63 rfl (by kernel_rfl)
  · rw [HX.out]
    exact LZ
set_option maxRecDepth 100000 in
set_option maxHeartbeats 4000000 in
theorem refRipe_nnn (s : Wk) (x : St) (hx : Few 200 x) (e : Int) (he : e < 18446744073709551616) (w : World) (h : Lies w s x) (h0 : ripeB x.p.t0 e = false) (h1 : ripeB x.p.t1 e = false) (h2 : ripeB x.p.t2 e = false) :
    Calls Try.prog 41 #[wv s, .int .u64 e] w fun r w' => ∃ s', r = .returned (wv s') ∧ Lies w' s' (ripeS x e) ∧ Below w.heap.size w w' := by
  have H0 := Lib.hid h0
  have H1 := Lib.hid h1
  have H2 := Lib.hid h2
  clear h0 h1 h2
  have HE := Lib.hid he
  clear he
  have e11 : ∀ s : Wk, (wc s)[11]? = some (.int .u64 s.p.t0) := fun _ => rfl
  have e12 : ∀ s : Wk, (wc s)[12]? = some (.slice s.l0.ad s.l0.len s.l0.cap) := fun _ => rfl
  have e13 : ∀ s : Wk, (wc s)[13]? = some (.int .u64 s.p.t1) := fun _ => rfl
  have e14 : ∀ s : Wk, (wc s)[14]? = some (.slice s.l1.ad s.l1.len s.l1.cap) := fun _ => rfl
  have e15 : ∀ s : Wk, (wc s)[15]? = some (.int .u64 s.p.t2) := fun _ => rfl
  have e16 : ∀ s : Wk, (wc s)[16]? = some (.slice s.l2.ad s.l2.len s.l2.cap) := fun _ => rfl
  have T := Two.start w s
  have L := h.keep T.below
  have HP := Lib.hid h.p
  have HS := Lib.hid h.p
  have HF := Lib.hid hx
  have N1 : NoB (w.heap.size) s x := noB_all h (Nat.le_refl _)
  have N2 : NoB (w.heap.size + 1) s x := noB_all h (by omega)
  have xx := T.X.cells
  have bl := T.lt
  go_enter Try.func41, Try.ntmps41
  go_wp2_with fail
  refine wp_loop_rounds 4 ?_
  rw [rounds_succ]
  go_wp2_with fail
  refine (refIs (t := (s).p.t0) (b := false) (by rw [HS.out]; exact H0.out) _ HE.out).mono ?_
  rintro r z0 ⟨rfl, rfl⟩
  go_wp2_with fail
  rw [rounds_succ]
  go_wp2_with fail
  refine (refIs (t := (s).p.t1) (b := false) (by rw [HS.out]; exact H1.out) _ HE.out).mono ?_
  rintro r z1 ⟨rfl, rfl⟩
  go_wp2_with fail
  rw [rounds_succ]
  go_wp2_with fail
  refine (refIs (t := (s).p.t2) (b := false) (by rw [HS.out]; exact H2.out) _ HE.out).mono ?_
  rintro r z2 ⟨rfl, rfl⟩
  go_wp2_with fail
  rw [rounds_succ]
  have HX : RowKit.Hid (ripeS x e = x) := Lib.hid (by unfold ripeS; rw [H0.out, H1.out, H2.out]; simp)
  have TZ := T.rowZ (s)
  have LZ := L.row N2 (wc (s))
  go_wp2_with (first | (refine wpList_load_row rfl 63 _ rfl (w.heap.size) rfl _ (wc (s)) (0, 0) _ (by exact T.X) Try.underlying63 rfl (by kernel_rfl) ?_) | (refine wpList_store_row rfl 63 _ _ rfl (w.heap.size + 1) (wc (s)) rfl rfl _ _ (by exact T.Z) (by kernel_rfl) (by kernel_rfl) (by kernel_rfl) ?_))
  refine bodyPost_ret (v := wv (s)) ?_ rfl ⟨_, rfl, ?_, TZ.below⟩
  · exact results_cell_row (p := 4) (ty := 63) Try.results41 _ _ (w.heap.size + 1) 63 _ (0, 0) _ rfl TZ.Z Try.underlying63 rfl (by kernel_rfl)
  · rw [HX.out]
    exact LZ
theorem refRipe (s : Wk) (x : St) (hx : Few 200 x) (e : Int) (he : e < 18446744073709551616) (w : World) (h : Lies w s x) :
    Calls Try.prog 41 #[wv s, .int .u64 e] w fun r w' => ∃ s', r = .returned (wv s') ∧ Lies w' s' (ripeS x e) ∧ Below w.heap.size w w' := by
  cases h0 : ripeB x.p.t0 e <;> cases h1 : ripeB x.p.t1 e <;> cases h2 : ripeB x.p.t2 e
  · exact refRipe_nnn s x hx e he w h h0 h1 h2
  · exact refRipe_nny s x hx e he w h h0 h1 h2
  · exact refRipe_nyn s x hx e he w h h0 h1 h2
  · exact refRipe_nyy s x hx e he w h h0 h1 h2
  · exact refRipe_ynn s x hx e he w h h0 h1 h2
  · exact refRipe_yny s x hx e he w h h0 h1 h2
  · exact refRipe_yyn s x hx e he w h h0 h1 h2
  · exact refRipe_yyy s x hx e he w h h0 h1 h2
end Go.Proofs.Ytkplkhcboobfaaa.Wo
