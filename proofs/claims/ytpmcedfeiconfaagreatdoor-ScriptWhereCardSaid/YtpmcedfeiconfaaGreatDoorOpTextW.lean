/- Layer 12: oper.Text (made by genoper4.py). -/
import Derived.Test.YtpmcedfeiconfaaGreatDoorOpText
namespace Go.Proofs.YtpmcedfeiconfaaGreatDoor.Opw
open Go Go.RowKit Go.ChangeMaps Go.Proofs.YtpmcedfeiconfaaGreatDoor.Gro Go.Proofs.YtpmcedfeiconfaaGreatDoor.Own Go.Proofs.YtpmcedfeiconfaaGreatDoor.Mr Go.Proofs.YtpmcedfeiconfaaGreatDoor.Opn
set_option linter.unusedVariables false
set_option linter.unusedSimpArgs false
theorem flags {k : Int} (h : isKind k = true) : (askB k = false ∧ numB k = false ∧ slabB k = false) ∨ (askB k = true ∧ numB k = false ∧ slabB k = false) ∨ (askB k = false ∧ numB k = true ∧ slabB k = false) ∨ (askB k = true ∧ numB k = true ∧ slabB k = false) ∨ (askB k = false ∧ numB k = false ∧ slabB k = true) := by
  rcases kind_cases h with rfl | rfl | rfl | rfl | rfl | rfl | rfl | rfl | rfl <;> decide
theorem name_len (k : Int) : (name k).length ≤ 7 := by
  unfold name
  repeat' split
  all_goals decide
theorem tick_len {o : OpD} (hF : o.Fits) : (tick o).length ≤ 42 := by
  have h1 := dec_20 (show o.b.toNat ≤ 18446744073709551615 by have := hF.b; omega)
  have h2 := dec_20 (show o.n.toNat ≤ 18446744073709551615 by have := hF.n; omega)
  have h3 := dec_20 (show o.t.toNat ≤ 18446744073709551615 by have := hF.t; omega)
  unfold tick dec
  split <;> simp <;> omega
theorem text_len {o : OpD} (hF : o.Fits) : (text o).length ≤ 100 := by
  have h1 := dec_20 (show o.x.toNat ≤ 18446744073709551615 by have := hF.x; omega)
  have h2 := dec_20 (show o.s.toNat ≤ 18446744073709551615 by have := hF.s; omega)
  have h3 := tick_len hF
  have h4 := name_len o.k
  unfold text words
  rw [Lib.join_length]
  unfold parts Lib.lens dec
  cases askB o.k <;> cases numB o.k <;> cases slabB o.k <;> simp <;> omega
set_option maxRecDepth 100000 in
set_option maxHeartbeats 8000000 in
theorem fText (o : OpD) (hF : o.Fits) (w : World) (L : Lb w) : Calls Tryz.prog 20 #[opV o] w fun e w' => e = .returned (.tuple #[strV (if right o = true then text o else []), .int .i64 (if right o = true then 0 else 3)]) ∧ Below w.heap.size w w' := by
  have K0 := Bk.new w (opC o) 50
  have hb0 : Below w.heap.size w (w.alloc (.cells (opC o) 50)) := (Below.refl _ _).alloc (Nat.le_refl _) _
  have HR0 := Lib.hid (fRight o)
  cases hr : right o
  · rw [if_neg (by decide), if_neg (by decide)]
    rw [hr] at HR0
    go_enter Tryz.func20, Tryz.ntmps20
    go_wp2_with (refine wpList_load_row rfl 50 _ rfl (w.heap.size) rfl _ (opC o) (0, 0) _ (by exact K0) Tryz.underlying50 rfl (by kernel_rfl) ?_)
    refine (HR0.out _).mono ?_
    rintro e z1 ⟨rfl, hb1⟩
    go_wp2
    go_ret2
    exact ⟨rfl, hb0.trans (hb1.mono hb0.size)⟩
  rw [if_pos rfl, if_pos rfl]
  rw [hr] at HR0
  have hk : isKind o.k = true := by simp only [right, Bool.and_eq_true] at hr; exact hr.1
  have hfl := flags hk
  have hU : askB o.k = true → o.u = true → 0 ≤ o.b ∧ 0 ≤ o.n := by
    intro h1 h2
    have : rightTk o = true := by simp only [right, Bool.and_eq_true] at hr; exact hr.2.1
    rw [rightTk, h1, h2] at this
    simp only [Bool.true_eq_false, if_false, if_true, Bool.and_eq_true, decide_eq_true_eq] at this
    exact ⟨this.1.2, this.2⟩
  have hS : slabB o.k = true → 0 ≤ o.s := by
    intro h1
    have : (o.s == 0 || (slabB o.k && decide (0 < o.s))) = true := by simp only [right, Bool.and_eq_true] at hr; exact hr.2.2.2
    rw [h1] at this
    simp only [Bool.true_and, Bool.or_eq_true, beq_iff_eq, decide_eq_true_eq] at this
    omega
  have hlen := text_len hF
  obtain ⟨tx, htx⟩ : ∃ q, q = text o := ⟨_, rfl⟩
  rw [← htx]
  rw [← htx] at hlen
  unfold text words parts at htx
  obtain ⟨ba, hba⟩ : ∃ q, q = askB o.k := ⟨_, rfl⟩
  obtain ⟨bn, hbn⟩ : ∃ q, q = numB o.k := ⟨_, rfl⟩
  obtain ⟨bs, hbs⟩ : ∃ q, q = slabB o.k := ⟨_, rfl⟩
  obtain ⟨bh, hbh⟩ : ∃ q, q = sharesB o.k := ⟨_, rfl⟩
  obtain ⟨ln, hln⟩ : ∃ q, q = name o.k := ⟨_, rfl⟩
  have hcK : cellsK o.k = shC ⟨ln.toArray⟩ ba bn bs bh := by rw [hba, hbn, hbs, hbh, hln]; rfl
  rw [← hba, ← hbn, ← hbs] at hfl
  rw [← hba] at hU
  rw [← hbs] at hS
  rw [← hba, ← hbn, ← hbs, ← hln] at htx
  have HK := Lib.hid hcK
  have HTX := Lib.hid htx
  have HLEN := Lib.hid hlen
  have HFL := Lib.hid hfl
  have HU := Lib.hid hU
  have HSL := Lib.hid hS
  have HFF := Lib.hid hF
  have HL := Lib.hid L
  clear hba hbn hbs hbh hln hcK hfl hU hS hk htx hlen hr hF L
  go_enter Tryz.func20, Tryz.ntmps20
  go_wp2_with (refine wpList_load_row rfl 50 _ rfl (w.heap.size) rfl _ (opC o) (0, 0) _ (by exact K0) Tryz.underlying50 rfl (by kernel_rfl) ?_)
  refine (HR0.out _).mono ?_
  rintro e w1 ⟨rfl, hb1⟩
  have K1 := K0.keep hb1
  have hb2 := hb0.trans (hb1.mono hb0.size)
  clear K0 hb0 hb1
  go_upto_region 3 with fail
  have K0 := K1
  have hb0 := hb2
  clear K1 hb2
  have l0 := K0.lt
  have sz1 := hb0.size
  go_cut [4] from 9 to 12 (fun p wr => ∃ gb, p = .pointer (some ⟨gb, 0, none⟩) ∧ Bk wr gb (shC ⟨ln.toArray⟩ ba bn bs bh) 84 ∧ Bk wr w.heap.size (opC o) 50 ∧ Below w.heap.size w wr)
  case first =>
    have hS0 : Below w1.heap.size w1 w1.drew := Below.drew (Below.refl _ _)
    refine wp_region_held_drew (S := fun w' => Below w1.heap.size w1 w') (by kernel_rfl) hS0 (fun hHeld => ?_)
    clear hS0
    generalize w1.drew = z0 at *
    refine wpAnyH_take (i := 1) (oi := _) (v := .pointer (some ⟨w.heap.size, 0, none⟩)) rfl (by kernel_rfl) (by kernel_rfl) (by kernel_rfl) (fun _ _ _ h => h) (Or.inl ⟨by rfl, fun w' hSw => by go_simp⟩) hHeld ?_
    try simp only [Act.put, List.getElem_toArray, List.getElem_cons_succ, List.getElem_cons_zero, List.setIfInBounds_toArray, List.set_cons_succ, List.set_cons_zero]
    refine wpAnyH_take (i := 2) (oi := _) (v := .int .i64 o.k) rfl (by kernel_rfl) (by kernel_rfl) (by kernel_rfl) (fun _ _ _ h => h) (Or.inl ⟨by rfl, fun w' hSw => by have xx := (K0.keep hSw).cells; go_simp⟩) hHeld ?_
    try simp only [Act.put, List.getElem_toArray, List.getElem_cons_succ, List.getElem_cons_zero, List.setIfInBounds_toArray, List.set_cons_succ, List.set_cons_zero]
    refine wpAnyH_ready (rs := [0, 4]) (by kernel_rfl) (by simp) ?_
    refine AllReadyH.cons (o := _) rfl (fun K hK => ?_) (AllReadyH.cons (o := _) rfl (fun K hK => ?_) AllReadyH.nil)
    · go_simp
      refine (shapes _).mono ?_
      rintro en z1 ⟨b9, rfl, MM, hb9, hb⟩
      have hHeld' := hHeld.trans (hb.mono hHeld.size)
      refine hK.out _ _ hHeld' (fun hHeld => ?_)
      clear hK K hHeld'
      try simp only [Act.put, List.getElem_toArray, List.getElem_cons_succ, List.getElem_cons_zero, List.setIfInBounds_toArray, List.set_cons_succ, List.set_cons_zero]
      refine wpAnyH_ready (rs := [3, 4]) (by kernel_rfl) (by simp) ?_
      refine AllReadyH.cons (o := _) rfl (fun K hK => ?_) (AllReadyH.cons (o := _) rfl (fun K hK => ?_) AllReadyH.nil)
      · have hlk := shapes_run MM o.k false
        rw [HK.out] at hlk
        simp only [if_true, if_false, Bool.false_eq_true] at hlk
        go_simp
        refine hK.out _ _ hHeld (fun hHeld => ?_)
        clear hK K hlk
        try simp only [Act.put, List.getElem_toArray, List.getElem_cons_succ, List.getElem_cons_zero, List.setIfInBounds_toArray, List.set_cons_succ, List.set_cons_zero]
        refine wpAnyH_ready (rs := [4]) (by kernel_rfl) (by simp) ?_
        refine AllReadyH.cons (o := _) rfl (fun K hK => ?_) AllReadyH.nil
        go_simp
        obtain ⟨za, hza⟩ : ∃ u, u = z1.alloc (.cells #[.string ⟨#[]⟩, .bool false, .bool false, .bool false, .bool false] 84) := ⟨_, rfl⟩
        have BX := Bk.new z1 #[.string ⟨#[]⟩, .bool false, .bool false, .bool false, .bool false] 84
        have gb7 := hHeld.size
        have hb7 : Below w1.heap.size w1 (z1.alloc (.cells #[.string ⟨#[]⟩, .bool false, .bool false, .bool false, .bool false] 84)) := hHeld.alloc hHeld.size _
        have MM := MM.of (b := b9) (w' := za) (by rw [hza]; exact heap_alloc_old z1 _ MM.lt)
        rw [← hza] at BX hb7 ⊢
        clear hza
        obtain ⟨gb, hgb⟩ : ∃ q, q = z1.heap.size := ⟨_, rfl⟩
        rw [← hgb] at BX gb7 ⊢
        clear hgb
        have bxl := BX.lt
        refine hK.out _ _ hb7 (fun hHeld => ?_)
        clear hK K hb7
        try simp only [Act.put, List.getElem_toArray, List.getElem_cons_succ, List.getElem_cons_zero, List.setIfInBounds_toArray, List.set_cons_succ, List.set_cons_zero]
        refine wpAnyH_ready (rs := [5]) (by kernel_rfl) (by simp) ?_
        refine AllReadyH.cons (o := _) rfl (fun K hK => ?_) AllReadyH.nil
        have B8 := BX.setRow (shC ⟨ln.toArray⟩ ba bn bs bh)
        have hb8 := below_setRow hHeld gb7 (shC ⟨ln.toArray⟩ ba bn bs bh)
        refine step_row rfl 84 (.tmp 4) (.tmp 12) rfl gb (shC ⟨ln.toArray⟩ ba bn bs bh) rfl rfl 84 (#[.string ⟨#[]⟩, .bool false, .bool false, .bool false, .bool false]) (by exact BX) (by kernel_rfl) rfl (by kernel_rfl) ?_
        obtain ⟨z8, hz8⟩ : ∃ u, u = za.setRow gb (shC ⟨ln.toArray⟩ ba bn bs bh) := ⟨_, rfl⟩
        rw [← hz8] at B8 hb8 ⊢
        clear hz8 BX
        refine hK.out _ _ hb8 (fun hHeld => ?_)
        clear hK K hb8
        try simp only [Act.put, List.getElem_toArray, List.getElem_cons_succ, List.getElem_cons_zero, List.setIfInBounds_toArray, List.set_cons_succ, List.set_cons_zero]
        refine wpAnyH_done (by kernel_rfl) ?_ _
        simp only [Exit.then]
        apply_assumption
        go_meet
        have K8 := K0.keep hHeld
        have hb9 := hb0.trans (hHeld.mono hb0.size)
        exact ⟨gb, rfl, B8, K8, hb9⟩
      · go_simp
        obtain ⟨za, hza⟩ : ∃ u, u = z1.alloc (.cells #[.string ⟨#[]⟩, .bool false, .bool false, .bool false, .bool false] 84) := ⟨_, rfl⟩
        have BX := Bk.new z1 #[.string ⟨#[]⟩, .bool false, .bool false, .bool false, .bool false] 84
        have gb7 := hHeld.size
        have hb7 : Below w1.heap.size w1 (z1.alloc (.cells #[.string ⟨#[]⟩, .bool false, .bool false, .bool false, .bool false] 84)) := hHeld.alloc hHeld.size _
        have MM := MM.of (b := b9) (w' := za) (by rw [hza]; exact heap_alloc_old z1 _ MM.lt)
        rw [← hza] at BX hb7 ⊢
        clear hza
        obtain ⟨gb, hgb⟩ : ∃ q, q = z1.heap.size := ⟨_, rfl⟩
        rw [← hgb] at BX gb7 ⊢
        clear hgb
        have bxl := BX.lt
        refine hK.out _ _ hb7 (fun hHeld => ?_)
        clear hK K hb7
        try simp only [Act.put, List.getElem_toArray, List.getElem_cons_succ, List.getElem_cons_zero, List.setIfInBounds_toArray, List.set_cons_succ, List.set_cons_zero]
        refine wpAnyH_ready (rs := [3]) (by kernel_rfl) (by simp) ?_
        refine AllReadyH.cons (o := _) rfl (fun K hK => ?_) AllReadyH.nil
        have hlk := shapes_run MM o.k false
        rw [HK.out] at hlk
        simp only [if_true, if_false, Bool.false_eq_true] at hlk
        go_simp
        refine hK.out _ _ hHeld (fun hHeld => ?_)
        clear hK K hlk
        try simp only [Act.put, List.getElem_toArray, List.getElem_cons_succ, List.getElem_cons_zero, List.setIfInBounds_toArray, List.set_cons_succ, List.set_cons_zero]
        refine wpAnyH_ready (rs := [5]) (by kernel_rfl) (by simp) ?_
        refine AllReadyH.cons (o := _) rfl (fun K hK => ?_) AllReadyH.nil
        have B8 := BX.setRow (shC ⟨ln.toArray⟩ ba bn bs bh)
        have hb8 := below_setRow hHeld gb7 (shC ⟨ln.toArray⟩ ba bn bs bh)
        refine step_row rfl 84 (.tmp 4) (.tmp 12) rfl gb (shC ⟨ln.toArray⟩ ba bn bs bh) rfl rfl 84 (#[.string ⟨#[]⟩, .bool false, .bool false, .bool false, .bool false]) (by exact BX) (by kernel_rfl) rfl (by kernel_rfl) ?_
        obtain ⟨z8, hz8⟩ : ∃ u, u = za.setRow gb (shC ⟨ln.toArray⟩ ba bn bs bh) := ⟨_, rfl⟩
        rw [← hz8] at B8 hb8 ⊢
        clear hz8 BX
        refine hK.out _ _ hb8 (fun hHeld => ?_)
        clear hK K hb8
        try simp only [Act.put, List.getElem_toArray, List.getElem_cons_succ, List.getElem_cons_zero, List.setIfInBounds_toArray, List.set_cons_succ, List.set_cons_zero]
        refine wpAnyH_done (by kernel_rfl) ?_ _
        simp only [Exit.then]
        apply_assumption
        go_meet
        have K8 := K0.keep hHeld
        have hb9 := hb0.trans (hHeld.mono hb0.size)
        exact ⟨gb, rfl, B8, K8, hb9⟩
    · go_simp
      obtain ⟨za, hza⟩ : ∃ u, u = z0.alloc (.cells #[.string ⟨#[]⟩, .bool false, .bool false, .bool false, .bool false] 84) := ⟨_, rfl⟩
      have BX := Bk.new z0 #[.string ⟨#[]⟩, .bool false, .bool false, .bool false, .bool false] 84
      have gb7 := hHeld.size
      have hb7 : Below w1.heap.size w1 (z0.alloc (.cells #[.string ⟨#[]⟩, .bool false, .bool false, .bool false, .bool false] 84)) := hHeld.alloc hHeld.size _
      rw [← hza] at BX hb7 ⊢
      clear hza
      obtain ⟨gb, hgb⟩ : ∃ q, q = z0.heap.size := ⟨_, rfl⟩
      rw [← hgb] at BX gb7 ⊢
      clear hgb
      have bxl := BX.lt
      refine hK.out _ _ hb7 (fun hHeld => ?_)
      clear hK K hb7
      try simp only [Act.put, List.getElem_toArray, List.getElem_cons_succ, List.getElem_cons_zero, List.setIfInBounds_toArray, List.set_cons_succ, List.set_cons_zero]
      refine wpAnyH_ready (rs := [0]) (by kernel_rfl) (by simp) ?_
      refine AllReadyH.cons (o := _) rfl (fun K hK => ?_) AllReadyH.nil
      go_simp
      refine (shapes _).mono ?_
      rintro en z1 ⟨b9, rfl, MM, hb9, hb⟩
      have hHeld' := hHeld.trans (hb.mono hHeld.size)
      have BX := BX.keep hb
      have bxl := BX.lt
      refine hK.out _ _ hHeld' (fun hHeld => ?_)
      clear hK K hHeld'
      try simp only [Act.put, List.getElem_toArray, List.getElem_cons_succ, List.getElem_cons_zero, List.setIfInBounds_toArray, List.set_cons_succ, List.set_cons_zero]
      refine wpAnyH_ready (rs := [3]) (by kernel_rfl) (by simp) ?_
      refine AllReadyH.cons (o := _) rfl (fun K hK => ?_) AllReadyH.nil
      have hlk := shapes_run MM o.k false
      rw [HK.out] at hlk
      simp only [if_true, if_false, Bool.false_eq_true] at hlk
      go_simp
      refine hK.out _ _ hHeld (fun hHeld => ?_)
      clear hK K hlk
      try simp only [Act.put, List.getElem_toArray, List.getElem_cons_succ, List.getElem_cons_zero, List.setIfInBounds_toArray, List.set_cons_succ, List.set_cons_zero]
      refine wpAnyH_ready (rs := [5]) (by kernel_rfl) (by simp) ?_
      refine AllReadyH.cons (o := _) rfl (fun K hK => ?_) AllReadyH.nil
      have B8 := BX.setRow (shC ⟨ln.toArray⟩ ba bn bs bh)
      have hb8 := below_setRow hHeld gb7 (shC ⟨ln.toArray⟩ ba bn bs bh)
      refine step_row rfl 84 (.tmp 4) (.tmp 12) rfl gb (shC ⟨ln.toArray⟩ ba bn bs bh) rfl rfl 84 (#[.string ⟨#[]⟩, .bool false, .bool false, .bool false, .bool false]) (by exact BX) (by kernel_rfl) rfl (by kernel_rfl) ?_
      obtain ⟨z8, hz8⟩ : ∃ u, u = z1.setRow gb (shC ⟨ln.toArray⟩ ba bn bs bh) := ⟨_, rfl⟩
      rw [← hz8] at B8 hb8 ⊢
      clear hz8 BX
      refine hK.out _ _ hb8 (fun hHeld => ?_)
      clear hK K hb8
      try simp only [Act.put, List.getElem_toArray, List.getElem_cons_succ, List.getElem_cons_zero, List.setIfInBounds_toArray, List.set_cons_succ, List.set_cons_zero]
      refine wpAnyH_done (by kernel_rfl) ?_ _
      simp only [Exit.then]
      apply_assumption
      go_meet
      have K8 := K0.keep hHeld
      have hb9 := hb0.trans (hHeld.mono hb0.size)
      exact ⟨gb, rfl, B8, K8, hb9⟩
  case rest =>
    revert wc
    intro z8 hcut
    obtain ⟨gb, rfl, B8, K8, hb9⟩ := hcut
    have L8 := HL.out.keep hb9
    have hgb := B8.lt
    have hko := K8.lt
    have sz9 := hb9.size
    have hfl := HFL.out
    clear K0 hb0 l0 sz1 HFL HL HR0 HK
    rcases hfl with ⟨rfl, rfl, rfl⟩ | ⟨rfl, rfl, rfl⟩ | ⟨rfl, rfl, rfl⟩ | ⟨rfl, rfl, rfl⟩ | ⟨rfl, rfl, rfl⟩
    · have htx := HTX.out
      simp only [if_true, if_false, Bool.false_eq_true, List.nil_append, List.append_nil, List.cons_append] at htx
      have HTX2 := Lib.hid htx
      clear htx HTX
      have b8 := B8.cells
      have k8 := K8.cells
      have BZ : Below z8.heap.size z8 (z8.alloc (.cells #[strV ln] 9)) := (Below.refl _ _).alloc (Nat.le_refl _) _
      have O9 : OwnS z8.heap.size (z8.alloc (.cells #[strV ln] 9)) (.slice (some ⟨z8.heap.size, 0, none⟩) 1 1) [ln] := OwnS.one z8 ln (Nat.le_refl _)
      have KC := K8.keep BZ
      have LC := L8.keep BZ
      go_wp2_with fail
      refine (fJoin O9 (by simp) (by simp) (by rw [← HTX2.out]; have := HLEN.out; omega)).mono ?_
      rintro e zz ⟨rfl, hbz⟩
      rw [← HTX2.out]
      go_wp2
      go_ret2
      exact ⟨rfl, hb9.trans ((BZ.trans (hbz.mono BZ.size)).mono sz9)⟩
    · have htx := HTX.out
      simp only [if_true, if_false, Bool.false_eq_true, List.nil_append, List.append_nil, List.cons_append] at htx
      have HTX2 := Lib.hid htx
      clear htx HTX
      have b8 := B8.cells
      have k8 := K8.cells
      have BZ : Below z8.heap.size z8 (z8.alloc (.cells #[strV ln] 9)) := (Below.refl _ _).alloc (Nat.le_refl _) _
      have O9 : OwnS z8.heap.size (z8.alloc (.cells #[strV ln] 9)) (.slice (some ⟨z8.heap.size, 0, none⟩) 1 1) [ln] := OwnS.one z8 ln (Nat.le_refl _)
      have KC := K8.keep BZ
      have LC := L8.keep BZ
      go_wp2_with (refine wpList_load_row rfl 50 _ rfl (w.heap.size) rfl _ (opC o) (0, 0) _ (by exact KC) Tryz.underlying50 rfl (by kernel_rfl) ?_)
      refine (fTicketText o HFF.out (HU.out (by trivial)) _ LC).mono ?_
      rintro e z10 ⟨rfl, hbc⟩
      have BY := BZ.trans (hbc.mono BZ.size)
      have O10 := O9.keep hbc
      clear hbc KC LC BZ O9
      have BA : Below z8.heap.size z8 (z10.alloc (.cells #[strV (tick o)] 9)) := BY.alloc BY.size _
      have bsz := BY.size
      have OA := O10.keep ((Below.refl z10.heap.size z10).alloc (Nat.le_refl _) (.cells #[strV (tick o)] 9))
      clear b8 k8
      go_wp2_with (at_builtin; refine append_row elemS rfl _ _ rfl z8.heap.size (.slice (some ⟨z8.heap.size, 0, none⟩) 1 1) 1 [strV ln] rfl OA z10.heap.size 1 1 [strV (tick o)] rfl rfl (new_cells _ _ _) (fun u hu => by obtain rfl := List.mem_singleton.1 hu; rfl) (by decide) (by decide) (by simp; omega) ?_; intro v11 z11 ON hbn; have BZ := BA.trans hbn; have b9 := (B8.keep BZ).cells; have hs9 := BZ.size; have KC := K8.keep BZ; have k9 := KC.cells; have LC := L8.keep BZ; clear OA BA hbn O10 BY bsz)
      have O11 : OwnS z8.heap.size z11 v11 [ln, (tick o)] := ON
      clear ON
      go_wp2_with fail
      refine (fJoin O11 (by simp) (by simp) (by rw [← HTX2.out]; have := HLEN.out; omega)).mono ?_
      rintro e zz ⟨rfl, hbz⟩
      rw [← HTX2.out]
      go_wp2
      go_ret2
      exact ⟨rfl, hb9.trans ((BZ.trans (hbz.mono BZ.size)).mono sz9)⟩
    · have htx := HTX.out
      simp only [if_true, if_false, Bool.false_eq_true, List.nil_append, List.append_nil, List.cons_append] at htx
      have HTX2 := Lib.hid htx
      clear htx HTX
      have b8 := B8.cells
      have k8 := K8.cells
      have BZ : Below z8.heap.size z8 (z8.alloc (.cells #[strV ln] 9)) := (Below.refl _ _).alloc (Nat.le_refl _) _
      have O9 : OwnS z8.heap.size (z8.alloc (.cells #[strV ln] 9)) (.slice (some ⟨z8.heap.size, 0, none⟩) 1 1) [ln] := OwnS.one z8 ln (Nat.le_refl _)
      have KC := K8.keep BZ
      have LC := L8.keep BZ
      have hxx : ((o.x.toNat : Nat) : Int) = o.x := by have := HFF.out.x; omega
      have HCX := Lib.hid (fUint o.x.toNat (by have := HFF.out.x; omega) _ LC)
      rw [hxx] at HCX
      clear hxx
      go_wp2_with fail
      refine HCX.out.mono ?_
      rintro e z10 ⟨rfl, hbc⟩
      have BY := BZ.trans (hbc.mono BZ.size)
      have O10 := O9.keep hbc
      clear hbc KC LC BZ O9 HCX
      have BA : Below z8.heap.size z8 (z10.alloc (.cells #[strV (dec o.x)] 9)) := BY.alloc BY.size _
      have bsz := BY.size
      have OA := O10.keep ((Below.refl z10.heap.size z10).alloc (Nat.le_refl _) (.cells #[strV (dec o.x)] 9))
      clear b8 k8
      go_wp2_with (at_builtin; refine append_row elemS rfl _ _ rfl z8.heap.size (.slice (some ⟨z8.heap.size, 0, none⟩) 1 1) 1 [strV ln] rfl OA z10.heap.size 1 1 [strV (dec o.x)] rfl rfl (new_cells _ _ _) (fun u hu => by obtain rfl := List.mem_singleton.1 hu; rfl) (by decide) (by decide) (by simp; omega) ?_; intro v11 z11 ON hbn; have BZ := BA.trans hbn; have b9 := (B8.keep BZ).cells; have hs9 := BZ.size; have KC := K8.keep BZ; have k9 := KC.cells; have LC := L8.keep BZ; clear OA BA hbn O10 BY bsz)
      have O11 : OwnS z8.heap.size z11 v11 [ln, (dec o.x)] := ON
      clear ON
      go_wp2_with fail
      refine (fJoin O11 (by simp) (by simp) (by rw [← HTX2.out]; have := HLEN.out; omega)).mono ?_
      rintro e zz ⟨rfl, hbz⟩
      rw [← HTX2.out]
      go_wp2
      go_ret2
      exact ⟨rfl, hb9.trans ((BZ.trans (hbz.mono BZ.size)).mono sz9)⟩
    · have htx := HTX.out
      simp only [if_true, if_false, Bool.false_eq_true, List.nil_append, List.append_nil, List.cons_append] at htx
      have HTX2 := Lib.hid htx
      clear htx HTX
      have b8 := B8.cells
      have k8 := K8.cells
      have BZ : Below z8.heap.size z8 (z8.alloc (.cells #[strV ln] 9)) := (Below.refl _ _).alloc (Nat.le_refl _) _
      have O9 : OwnS z8.heap.size (z8.alloc (.cells #[strV ln] 9)) (.slice (some ⟨z8.heap.size, 0, none⟩) 1 1) [ln] := OwnS.one z8 ln (Nat.le_refl _)
      have KC := K8.keep BZ
      have LC := L8.keep BZ
      go_wp2_with (refine wpList_load_row rfl 50 _ rfl (w.heap.size) rfl _ (opC o) (0, 0) _ (by exact KC) Tryz.underlying50 rfl (by kernel_rfl) ?_)
      refine (fTicketText o HFF.out (HU.out (by trivial)) _ LC).mono ?_
      rintro e z10 ⟨rfl, hbc⟩
      have BY := BZ.trans (hbc.mono BZ.size)
      have O10 := O9.keep hbc
      clear hbc KC LC BZ O9
      have BA : Below z8.heap.size z8 (z10.alloc (.cells #[strV (tick o)] 9)) := BY.alloc BY.size _
      have bsz := BY.size
      have OA := O10.keep ((Below.refl z10.heap.size z10).alloc (Nat.le_refl _) (.cells #[strV (tick o)] 9))
      clear b8 k8
      go_wp2_with (at_builtin; refine append_row elemS rfl _ _ rfl z8.heap.size (.slice (some ⟨z8.heap.size, 0, none⟩) 1 1) 1 [strV ln] rfl OA z10.heap.size 1 1 [strV (tick o)] rfl rfl (new_cells _ _ _) (fun u hu => by obtain rfl := List.mem_singleton.1 hu; rfl) (by decide) (by decide) (by simp; omega) ?_; intro v11 z11 ON hbn; have BZ := BA.trans hbn; have b9 := (B8.keep BZ).cells; have hs9 := BZ.size; have KC := K8.keep BZ; have k9 := KC.cells; have LC := L8.keep BZ; clear OA BA hbn O10 BY bsz)
      have O11 : OwnS z8.heap.size z11 v11 [ln, (tick o)] := ON
      clear ON
      have hxx : ((o.x.toNat : Nat) : Int) = o.x := by have := HFF.out.x; omega
      have HCX := Lib.hid (fUint o.x.toNat (by have := HFF.out.x; omega) _ LC)
      rw [hxx] at HCX
      clear hxx
      go_wp2_with fail
      refine HCX.out.mono ?_
      rintro e z12 ⟨rfl, hbc⟩
      have BY := BZ.trans (hbc.mono BZ.size)
      have O12 := O11.keep hbc
      clear hbc KC LC BZ O11 HCX
      have BA : Below z8.heap.size z8 (z12.alloc (.cells #[strV (dec o.x)] 9)) := BY.alloc BY.size _
      have bsz := BY.size
      have OA := O12.keep ((Below.refl z12.heap.size z12).alloc (Nat.le_refl _) (.cells #[strV (dec o.x)] 9))
      clear b9 k9
      go_wp2_with (at_builtin; refine append_row elemS rfl _ _ rfl z8.heap.size v11 2 [strV ln, strV (tick o)] rfl OA z12.heap.size 1 1 [strV (dec o.x)] rfl rfl (new_cells _ _ _) (fun u hu => by obtain rfl := List.mem_singleton.1 hu; rfl) (by decide) (by decide) (by simp; omega) ?_; intro v13 z13 ON hbn; have BZ := BA.trans hbn; have b9 := (B8.keep BZ).cells; have hs9 := BZ.size; have KC := K8.keep BZ; have k9 := KC.cells; have LC := L8.keep BZ; clear OA BA hbn O12 BY bsz)
      have O13 : OwnS z8.heap.size z13 v13 [ln, (tick o), (dec o.x)] := ON
      clear ON
      go_wp2_with fail
      refine (fJoin O13 (by simp) (by simp) (by rw [← HTX2.out]; have := HLEN.out; omega)).mono ?_
      rintro e zz ⟨rfl, hbz⟩
      rw [← HTX2.out]
      go_wp2
      go_ret2
      exact ⟨rfl, hb9.trans ((BZ.trans (hbz.mono BZ.size)).mono sz9)⟩
    · have htx := HTX.out
      simp only [if_true, if_false, Bool.false_eq_true, List.nil_append, List.append_nil, List.cons_append] at htx
      have HTX2 := Lib.hid htx
      clear htx HTX
      have b8 := B8.cells
      have k8 := K8.cells
      have BZ : Below z8.heap.size z8 (z8.alloc (.cells #[strV ln] 9)) := (Below.refl _ _).alloc (Nat.le_refl _) _
      have O9 : OwnS z8.heap.size (z8.alloc (.cells #[strV ln] 9)) (.slice (some ⟨z8.heap.size, 0, none⟩) 1 1) [ln] := OwnS.one z8 ln (Nat.le_refl _)
      have KC := K8.keep BZ
      have LC := L8.keep BZ
      go_wp2_with fail
      refine (fItoa o.s (HSL.out (by trivial)) (by have := HFF.out.s; omega) _ LC).mono ?_
      rintro e z10 ⟨rfl, hbc⟩
      have BY := BZ.trans (hbc.mono BZ.size)
      have O10 := O9.keep hbc
      clear hbc KC LC BZ O9
      have BA : Below z8.heap.size z8 (z10.alloc (.cells #[strV (dec o.s)] 9)) := BY.alloc BY.size _
      have bsz := BY.size
      have OA := O10.keep ((Below.refl z10.heap.size z10).alloc (Nat.le_refl _) (.cells #[strV (dec o.s)] 9))
      clear b8 k8
      go_wp2_with (at_builtin; refine append_row elemS rfl _ _ rfl z8.heap.size (.slice (some ⟨z8.heap.size, 0, none⟩) 1 1) 1 [strV ln] rfl OA z10.heap.size 1 1 [strV (dec o.s)] rfl rfl (new_cells _ _ _) (fun u hu => by obtain rfl := List.mem_singleton.1 hu; rfl) (by decide) (by decide) (by simp; omega) ?_; intro v11 z11 ON hbn; have BZ := BA.trans hbn; have b9 := (B8.keep BZ).cells; have hs9 := BZ.size; have KC := K8.keep BZ; have k9 := KC.cells; have LC := L8.keep BZ; clear OA BA hbn O10 BY bsz)
      have O11 : OwnS z8.heap.size z11 v11 [ln, (dec o.s)] := ON
      clear ON
      go_wp2_with fail
      refine (fJoin O11 (by simp) (by simp) (by rw [← HTX2.out]; have := HLEN.out; omega)).mono ?_
      rintro e zz ⟨rfl, hbz⟩
      rw [← HTX2.out]
      go_wp2
      go_ret2
      exact ⟨rfl, hb9.trans ((BZ.trans (hbz.mono BZ.size)).mono sz9)⟩
end Go.Proofs.YtpmcedfeiconfaaGreatDoor.Opw
