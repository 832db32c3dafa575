/- Layer 12: oper.Right and the reference's small functions (made by genoper.py). -/
import Derived.Test.YtpmcedfeiconfaaGreatDoorOpMap
namespace Go.Proofs.YtpmcedfeiconfaaGreatDoor.Opw
open Go Go.RowKit Go.ChangeMaps Go.Proofs.YtpmcedfeiconfaaGreatDoor.Gro Go.Proofs.YtpmcedfeiconfaaGreatDoor.Own Go.Proofs.YtpmcedfeiconfaaGreatDoor.Mr Go.Proofs.YtpmcedfeiconfaaGreatDoor.Opn
set_option linter.unusedVariables false
set_option linter.unusedSimpArgs false
abbrev opC (o : OpD) : Array Value := #[.int .i64 o.k, .int .u64 o.t, .int .u64 o.x, .int .i64 o.s, .bool o.u, .int .i64 o.b, .int .i64 o.n]
abbrev opV (o : OpD) : Value := .agg (opC o)
def rightTkA (o : OpD) (a : Bool) : Bool := if a = false then o.t == 0 && !o.u && o.b == 0 && o.n == 0 else if o.u then o.t == 0 && decide (0 ≤ o.b) && decide (0 ≤ o.n) else o.b == 0 && o.n == 0
theorem rightTkA_eq (o : OpD) : rightTkA o (askB o.k) = rightTk o := rfl
set_option maxRecDepth 100000 in
set_option maxHeartbeats 8000000 in
theorem fRightTicket (o : OpD) (a : Bool) (w : World) : Calls Tryz.prog 60 #[opV o, .bool a] w fun e w' => e = .returned (.bool (rightTkA o a)) ∧ Below w.heap.size w w' := by
  obtain ⟨k, t, x, s, u, b, n⟩ := o
  have K0 := Bk.new w (opC ⟨k, t, x, s, u, b, n⟩) 50
  have hbB : ∀ cs, Below w.heap.size w (w.alloc (.cells cs 50)) := fun cs => (Below.refl _ _).alloc (Nat.le_refl _) _
  cases a <;> cases u
  all_goals
    go_enter Tryz.func60, Tryz.ntmps60
    go_wp2
  all_goals
    go_ret
    refine ⟨?_, hbB _⟩
    (simp_all [rightTkA]) <;> omega
set_option maxRecDepth 100000 in
set_option maxHeartbeats 8000000 in
theorem fRight (o : OpD) (w : World) : Calls Tryz.prog 39 #[opV o] w fun e w' => e = .returned (.bool (right o)) ∧ Below w.heap.size w w' := by
  have K0 := Bk.new w (opC o) 50
  have hb0 : Below w.heap.size w (w.alloc (.cells (opC o) 50)) := (Below.refl _ _).alloc (Nat.le_refl _) _
  obtain ⟨bk, hbk⟩ : ∃ q, q = isKind o.k := ⟨_, rfl⟩
  obtain ⟨ba, hba⟩ : ∃ q, q = askB o.k := ⟨_, rfl⟩
  obtain ⟨bn, hbn⟩ : ∃ q, q = numB o.k := ⟨_, rfl⟩
  obtain ⟨bs, hbs⟩ : ∃ q, q = slabB o.k := ⟨_, rfl⟩
  obtain ⟨bh, hbh⟩ : ∃ q, q = sharesB o.k := ⟨_, rfl⟩
  obtain ⟨nm, hnm⟩ : ∃ q, q = nameB o.k := ⟨_, rfl⟩
  have hcK : cellsK o.k = shC nm ba bn bs bh := by rw [hba, hbn, hbs, hbh, hnm]; rfl
  have hR : right o = (bk && (rightTkA o ba && ((bn || o.x == 0) && (o.s == 0 || (bs && decide (0 < o.s)))))) := by rw [hbk, hba, hbn, hbs]; rfl
  obtain ⟨bt, hbt⟩ : ∃ q, q = rightTkA o ba := ⟨_, rfl⟩
  rw [hR, ← hbt]
  have HBT := Lib.hid hbt
  have HR := Lib.hid hbk
  have HK := Lib.hid hcK
  clear hbt hbk hba hbn hbs hbh hnm hcK hR
  go_enter Tryz.func39, Tryz.ntmps39
  go_wp2
  obtain ⟨w1, hw1⟩ : ∃ u, u = w.alloc (.cells (opC o) 50) := ⟨_, rfl⟩
  rw [← hw1] at K0 hb0 ⊢
  have l0 := K0.lt
  have sz1 := hb0.size
  clear hw1
  go_cut [3, 4] from 5 to 11 (fun p q wr => ∃ gb, p = .pointer (some ⟨gb, 0, none⟩) ∧ q = .bool bk ∧ Bk wr gb (shC nm ba bn bs bh) 84 ∧ Bk wr w.heap.size (opC o) 50 ∧ Below w.heap.size w wr)
  case first =>
    have hS0 : Below w1.heap.size w1 w1.drew := Below.drew (Below.refl _ _)
    refine wp_region_held_drew (S := fun w' => Below w1.heap.size w1 w') (by kernel_rfl) hS0 (fun hHeld => ?_)
    clear hS0
    generalize w1.drew = z0 at *
    refine wpAnyH_take (i := 1) (oi := _) (v := .pointer (some ⟨w.heap.size, 0, none⟩)) rfl (by kernel_rfl) (by kernel_rfl) (by kernel_rfl) (fun _ _ _ h => h) (Or.inl ⟨by rfl, fun w' hSw => by go_simp⟩) hHeld ?_
    try simp only [Act.put, List.getElem_toArray, List.getElem_cons_succ, List.getElem_cons_zero, List.setIfInBounds_toArray, List.set_cons_succ, List.set_cons_zero]
    refine wpAnyH_take (i := 2) (oi := _) (v := .int .i64 o.k) rfl (by kernel_rfl) (by kernel_rfl) (by kernel_rfl) (fun _ _ _ h => h) (Or.inl ⟨by rfl, fun w' hSw => by have xx := (K0.keep hSw).cells; go_simp⟩) hHeld ?_
    try simp only [Act.put, List.getElem_toArray, List.getElem_cons_succ, List.getElem_cons_zero, List.setIfInBounds_toArray, List.set_cons_succ, List.set_cons_zero]
    refine wpAnyH_ready (rs := [0, 7]) (by kernel_rfl) (by simp) ?_
    refine AllReadyH.cons (o := _) rfl (fun K hK => ?_) (AllReadyH.cons (o := _) rfl (fun K hK => ?_) AllReadyH.nil)
    · go_simp
      refine (shapes _).mono ?_
      rintro en z1 ⟨b9, rfl, MM, hb9, hb⟩
      have hHeld' := hHeld.trans (hb.mono hHeld.size)
      refine hK.out _ _ hHeld' (fun hHeld => ?_)
      clear hK K hHeld'
      try simp only [Act.put, List.getElem_toArray, List.getElem_cons_succ, List.getElem_cons_zero, List.setIfInBounds_toArray, List.set_cons_succ, List.set_cons_zero]
      refine wpAnyH_ready (rs := [3, 7]) (by kernel_rfl) (by simp) ?_
      refine AllReadyH.cons (o := _) rfl (fun K hK => ?_) (AllReadyH.cons (o := _) rfl (fun K hK => ?_) AllReadyH.nil)
      · have hlk := shapes_run MM o.k true
        rw [HK.out, ← HR.out] at hlk
        simp only [if_true, if_false, Bool.false_eq_true] at hlk
        go_simp
        refine hK.out _ _ hHeld (fun hHeld => ?_)
        clear hK K hlk
        try simp only [Act.put, List.getElem_toArray, List.getElem_cons_succ, List.getElem_cons_zero, List.setIfInBounds_toArray, List.set_cons_succ, List.set_cons_zero]
        refine wpAnyH_take (i := 4) (oi := _) (v := .tuple #[.agg (shC nm ba bn bs bh), .bool bk]) rfl (by kernel_rfl) (by kernel_rfl) (by kernel_rfl) (fun _ _ _ h => h) (Or.inl ⟨by rfl, fun w' hSw => by go_simp⟩) hHeld ?_
        try simp only [Act.put, List.getElem_toArray, List.getElem_cons_succ, List.getElem_cons_zero, List.setIfInBounds_toArray, List.set_cons_succ, List.set_cons_zero]
        refine wpAnyH_take (i := 5) (oi := _) (v := .agg (shC nm ba bn bs bh)) rfl (by kernel_rfl) (by kernel_rfl) (by kernel_rfl) (fun _ _ _ h => h) (Or.inl ⟨by rfl, fun w' hSw => by go_simp⟩) hHeld ?_
        try simp only [Act.put, List.getElem_toArray, List.getElem_cons_succ, List.getElem_cons_zero, List.setIfInBounds_toArray, List.set_cons_succ, List.set_cons_zero]
        refine wpAnyH_ready (rs := [6, 7]) (by kernel_rfl) (by simp) ?_
        refine AllReadyH.cons (o := _) rfl (fun K hK => ?_) (AllReadyH.cons (o := _) rfl (fun K hK => ?_) AllReadyH.nil)
        · go_simp
          refine hK.out _ _ hHeld (fun hHeld => ?_)
          clear hK K
          try simp only [Act.put, List.getElem_toArray, List.getElem_cons_succ, List.getElem_cons_zero, List.setIfInBounds_toArray, List.set_cons_succ, List.set_cons_zero]
          refine wpAnyH_ready (rs := [7]) (by kernel_rfl) (by simp) ?_
          refine AllReadyH.cons (o := _) rfl (fun K hK => ?_) AllReadyH.nil
          go_simp
          obtain ⟨za, hza⟩ : ∃ u, u = z1.alloc (.cells #[.string ⟨#[]⟩, .bool false, .bool false, .bool false, .bool false] 84) := ⟨_, rfl⟩
          have BX := Bk.new z1 #[.string ⟨#[]⟩, .bool false, .bool false, .bool false, .bool false] 84
          have gb7 := hHeld.size
          have hb7 : Below w1.heap.size w1 (z1.alloc (.cells #[.string ⟨#[]⟩, .bool false, .bool false, .bool false, .bool false] 84)) := hHeld.alloc hHeld.size _
          have MM := MM.of (b := b9) (w' := za) (by rw [hza]; exact heap_alloc_old z1 _ MM.lt)
          rw [← hza] at BX hb7 ⊢
          clear hza
          obtain ⟨gb, hgb⟩ : ∃ q, q = z1.heap.size := ⟨_, rfl⟩
          rw [← hgb] at BX gb7 ⊢
          clear hgb
          have bxl := BX.lt
          refine hK.out _ _ hb7 (fun hHeld => ?_)
          clear hK K hb7
          try simp only [Act.put, List.getElem_toArray, List.getElem_cons_succ, List.getElem_cons_zero, List.setIfInBounds_toArray, List.set_cons_succ, List.set_cons_zero]
          refine wpAnyH_ready (rs := [8]) (by kernel_rfl) (by simp) ?_
          refine AllReadyH.cons (o := _) rfl (fun K hK => ?_) AllReadyH.nil
          have B8 := BX.setRow (shC nm ba bn bs bh)
          have hb8 := below_setRow hHeld gb7 (shC nm ba bn bs bh)
          refine step_row rfl 84 (.tmp 3) (.tmp 10) rfl gb (shC nm ba bn bs bh) rfl rfl 84 (#[.string ⟨#[]⟩, .bool false, .bool false, .bool false, .bool false]) (by exact BX) (by kernel_rfl) rfl (by kernel_rfl) ?_
          obtain ⟨z8, hz8⟩ : ∃ u, u = za.setRow gb (shC nm ba bn bs bh) := ⟨_, rfl⟩
          rw [← hz8] at B8 hb8 ⊢
          clear hz8 BX
          refine hK.out _ _ hb8 (fun hHeld => ?_)
          clear hK K hb8
          try simp only [Act.put, List.getElem_toArray, List.getElem_cons_succ, List.getElem_cons_zero, List.setIfInBounds_toArray, List.set_cons_succ, List.set_cons_zero]
          refine wpAnyH_take (i := 9) (oi := _) (v := .bool bk) rfl (by kernel_rfl) (by kernel_rfl) (by kernel_rfl) (fun _ _ _ h => h) (Or.inl ⟨by rfl, fun w' hSw => by go_simp⟩) hHeld ?_
          try simp only [Act.put, List.getElem_toArray, List.getElem_cons_succ, List.getElem_cons_zero, List.setIfInBounds_toArray, List.set_cons_succ, List.set_cons_zero]
          refine wpAnyH_done (by kernel_rfl) ?_ _
          simp only [Exit.then]
          apply_assumption
          go_meet
          have K8 := K0.keep hHeld
          have hb9 := hb0.trans (hHeld.mono hb0.size)
          exact ⟨gb, rfl, rfl, B8, K8, hb9⟩
        · go_simp
          obtain ⟨za, hza⟩ : ∃ u, u = z1.alloc (.cells #[.string ⟨#[]⟩, .bool false, .bool false, .bool false, .bool false] 84) := ⟨_, rfl⟩
          have BX := Bk.new z1 #[.string ⟨#[]⟩, .bool false, .bool false, .bool false, .bool false] 84
          have gb7 := hHeld.size
          have hb7 : Below w1.heap.size w1 (z1.alloc (.cells #[.string ⟨#[]⟩, .bool false, .bool false, .bool false, .bool false] 84)) := hHeld.alloc hHeld.size _
          have MM := MM.of (b := b9) (w' := za) (by rw [hza]; exact heap_alloc_old z1 _ MM.lt)
          rw [← hza] at BX hb7 ⊢
          clear hza
          obtain ⟨gb, hgb⟩ : ∃ q, q = z1.heap.size := ⟨_, rfl⟩
          rw [← hgb] at BX gb7 ⊢
          clear hgb
          have bxl := BX.lt
          refine hK.out _ _ hb7 (fun hHeld => ?_)
          clear hK K hb7
          try simp only [Act.put, List.getElem_toArray, List.getElem_cons_succ, List.getElem_cons_zero, List.setIfInBounds_toArray, List.set_cons_succ, List.set_cons_zero]
          refine wpAnyH_ready (rs := [6, 8]) (by kernel_rfl) (by simp) ?_
          refine AllReadyH.cons (o := _) rfl (fun K hK => ?_) (AllReadyH.cons (o := _) rfl (fun K hK => ?_) AllReadyH.nil)
          · go_simp
            refine hK.out _ _ hHeld (fun hHeld => ?_)
            clear hK K
            try simp only [Act.put, List.getElem_toArray, List.getElem_cons_succ, List.getElem_cons_zero, List.setIfInBounds_toArray, List.set_cons_succ, List.set_cons_zero]
            refine wpAnyH_ready (rs := [8]) (by kernel_rfl) (by simp) ?_
            refine AllReadyH.cons (o := _) rfl (fun K hK => ?_) AllReadyH.nil
            have B8 := BX.setRow (shC nm ba bn bs bh)
            have hb8 := below_setRow hHeld gb7 (shC nm ba bn bs bh)
            refine step_row rfl 84 (.tmp 3) (.tmp 10) rfl gb (shC nm ba bn bs bh) rfl rfl 84 (#[.string ⟨#[]⟩, .bool false, .bool false, .bool false, .bool false]) (by exact BX) (by kernel_rfl) rfl (by kernel_rfl) ?_
            obtain ⟨z8, hz8⟩ : ∃ u, u = za.setRow gb (shC nm ba bn bs bh) := ⟨_, rfl⟩
            rw [← hz8] at B8 hb8 ⊢
            clear hz8 BX
            refine hK.out _ _ hb8 (fun hHeld => ?_)
            clear hK K hb8
            try simp only [Act.put, List.getElem_toArray, List.getElem_cons_succ, List.getElem_cons_zero, List.setIfInBounds_toArray, List.set_cons_succ, List.set_cons_zero]
            refine wpAnyH_take (i := 9) (oi := _) (v := .bool bk) rfl (by kernel_rfl) (by kernel_rfl) (by kernel_rfl) (fun _ _ _ h => h) (Or.inl ⟨by rfl, fun w' hSw => by go_simp⟩) hHeld ?_
            try simp only [Act.put, List.getElem_toArray, List.getElem_cons_succ, List.getElem_cons_zero, List.setIfInBounds_toArray, List.set_cons_succ, List.set_cons_zero]
            refine wpAnyH_done (by kernel_rfl) ?_ _
            simp only [Exit.then]
            apply_assumption
            go_meet
            have K8 := K0.keep hHeld
            have hb9 := hb0.trans (hHeld.mono hb0.size)
            exact ⟨gb, rfl, rfl, B8, K8, hb9⟩
          · have B8 := BX.setRow (shC nm ba bn bs bh)
            have hb8 := below_setRow hHeld gb7 (shC nm ba bn bs bh)
            refine step_row rfl 84 (.tmp 3) (.tmp 10) rfl gb (shC nm ba bn bs bh) rfl rfl 84 (#[.string ⟨#[]⟩, .bool false, .bool false, .bool false, .bool false]) (by exact BX) (by kernel_rfl) rfl (by kernel_rfl) ?_
            obtain ⟨z8, hz8⟩ : ∃ u, u = za.setRow gb (shC nm ba bn bs bh) := ⟨_, rfl⟩
            rw [← hz8] at B8 hb8 ⊢
            clear hz8 BX
            refine hK.out _ _ hb8 (fun hHeld => ?_)
            clear hK K hb8
            try simp only [Act.put, List.getElem_toArray, List.getElem_cons_succ, List.getElem_cons_zero, List.setIfInBounds_toArray, List.set_cons_succ, List.set_cons_zero]
            refine wpAnyH_take (i := 6) (oi := _) (v := .bool bk) rfl (by kernel_rfl) (by kernel_rfl) (by kernel_rfl) (fun _ _ _ h => h) (Or.inl ⟨by rfl, fun w' hSw => by go_simp⟩) hHeld ?_
            try simp only [Act.put, List.getElem_toArray, List.getElem_cons_succ, List.getElem_cons_zero, List.setIfInBounds_toArray, List.set_cons_succ, List.set_cons_zero]
            refine wpAnyH_take (i := 9) (oi := _) (v := .bool bk) rfl (by kernel_rfl) (by kernel_rfl) (by kernel_rfl) (fun _ _ _ h => h) (Or.inl ⟨by rfl, fun w' hSw => by go_simp⟩) hHeld ?_
            try simp only [Act.put, List.getElem_toArray, List.getElem_cons_succ, List.getElem_cons_zero, List.setIfInBounds_toArray, List.set_cons_succ, List.set_cons_zero]
            refine wpAnyH_done (by kernel_rfl) ?_ _
            simp only [Exit.then]
            apply_assumption
            go_meet
            have K8 := K0.keep hHeld
            have hb9 := hb0.trans (hHeld.mono hb0.size)
            exact ⟨gb, rfl, rfl, B8, K8, hb9⟩
      · go_simp
        obtain ⟨za, hza⟩ : ∃ u, u = z1.alloc (.cells #[.string ⟨#[]⟩, .bool false, .bool false, .bool false, .bool false] 84) := ⟨_, rfl⟩
        have BX := Bk.new z1 #[.string ⟨#[]⟩, .bool false, .bool false, .bool false, .bool false] 84
        have gb7 := hHeld.size
        have hb7 : Below w1.heap.size w1 (z1.alloc (.cells #[.string ⟨#[]⟩, .bool false, .bool false, .bool false, .bool false] 84)) := hHeld.alloc hHeld.size _
        have MM := MM.of (b := b9) (w' := za) (by rw [hza]; exact heap_alloc_old z1 _ MM.lt)
        rw [← hza] at BX hb7 ⊢
        clear hza
        obtain ⟨gb, hgb⟩ : ∃ q, q = z1.heap.size := ⟨_, rfl⟩
        rw [← hgb] at BX gb7 ⊢
        clear hgb
        have bxl := BX.lt
        refine hK.out _ _ hb7 (fun hHeld => ?_)
        clear hK K hb7
        try simp only [Act.put, List.getElem_toArray, List.getElem_cons_succ, List.getElem_cons_zero, List.setIfInBounds_toArray, List.set_cons_succ, List.set_cons_zero]
        refine wpAnyH_ready (rs := [3]) (by kernel_rfl) (by simp) ?_
        refine AllReadyH.cons (o := _) rfl (fun K hK => ?_) AllReadyH.nil
        have hlk := shapes_run MM o.k true
        rw [HK.out, ← HR.out] at hlk
        simp only [if_true, if_false, Bool.false_eq_true] at hlk
        go_simp
        refine hK.out _ _ hHeld (fun hHeld => ?_)
        clear hK K hlk
        try simp only [Act.put, List.getElem_toArray, List.getElem_cons_succ, List.getElem_cons_zero, List.setIfInBounds_toArray, List.set_cons_succ, List.set_cons_zero]
        refine wpAnyH_take (i := 4) (oi := _) (v := .tuple #[.agg (shC nm ba bn bs bh), .bool bk]) rfl (by kernel_rfl) (by kernel_rfl) (by kernel_rfl) (fun _ _ _ h => h) (Or.inl ⟨by rfl, fun w' hSw => by go_simp⟩) hHeld ?_
        try simp only [Act.put, List.getElem_toArray, List.getElem_cons_succ, List.getElem_cons_zero, List.setIfInBounds_toArray, List.set_cons_succ, List.set_cons_zero]
        refine wpAnyH_take (i := 5) (oi := _) (v := .agg (shC nm ba bn bs bh)) rfl (by kernel_rfl) (by kernel_rfl) (by kernel_rfl) (fun _ _ _ h => h) (Or.inl ⟨by rfl, fun w' hSw => by go_simp⟩) hHeld ?_
        try simp only [Act.put, List.getElem_toArray, List.getElem_cons_succ, List.getElem_cons_zero, List.setIfInBounds_toArray, List.set_cons_succ, List.set_cons_zero]
        refine wpAnyH_ready (rs := [6, 8]) (by kernel_rfl) (by simp) ?_
        refine AllReadyH.cons (o := _) rfl (fun K hK => ?_) (AllReadyH.cons (o := _) rfl (fun K hK => ?_) AllReadyH.nil)
        · go_simp
          refine hK.out _ _ hHeld (fun hHeld => ?_)
          clear hK K
          try simp only [Act.put, List.getElem_toArray, List.getElem_cons_succ, List.getElem_cons_zero, List.setIfInBounds_toArray, List.set_cons_succ, List.set_cons_zero]
          refine wpAnyH_ready (rs := [8]) (by kernel_rfl) (by simp) ?_
          refine AllReadyH.cons (o := _) rfl (fun K hK => ?_) AllReadyH.nil
          have B8 := BX.setRow (shC nm ba bn bs bh)
          have hb8 := below_setRow hHeld gb7 (shC nm ba bn bs bh)
          refine step_row rfl 84 (.tmp 3) (.tmp 10) rfl gb (shC nm ba bn bs bh) rfl rfl 84 (#[.string ⟨#[]⟩, .bool false, .bool false, .bool false, .bool false]) (by exact BX) (by kernel_rfl) rfl (by kernel_rfl) ?_
          obtain ⟨z8, hz8⟩ : ∃ u, u = za.setRow gb (shC nm ba bn bs bh) := ⟨_, rfl⟩
          rw [← hz8] at B8 hb8 ⊢
          clear hz8 BX
          refine hK.out _ _ hb8 (fun hHeld => ?_)
          clear hK K hb8
          try simp only [Act.put, List.getElem_toArray, List.getElem_cons_succ, List.getElem_cons_zero, List.setIfInBounds_toArray, List.set_cons_succ, List.set_cons_zero]
          refine wpAnyH_take (i := 9) (oi := _) (v := .bool bk) rfl (by kernel_rfl) (by kernel_rfl) (by kernel_rfl) (fun _ _ _ h => h) (Or.inl ⟨by rfl, fun w' hSw => by go_simp⟩) hHeld ?_
          try simp only [Act.put, List.getElem_toArray, List.getElem_cons_succ, List.getElem_cons_zero, List.setIfInBounds_toArray, List.set_cons_succ, List.set_cons_zero]
          refine wpAnyH_done (by kernel_rfl) ?_ _
          simp only [Exit.then]
          apply_assumption
          go_meet
          have K8 := K0.keep hHeld
          have hb9 := hb0.trans (hHeld.mono hb0.size)
          exact ⟨gb, rfl, rfl, B8, K8, hb9⟩
        · have B8 := BX.setRow (shC nm ba bn bs bh)
          have hb8 := below_setRow hHeld gb7 (shC nm ba bn bs bh)
          refine step_row rfl 84 (.tmp 3) (.tmp 10) rfl gb (shC nm ba bn bs bh) rfl rfl 84 (#[.string ⟨#[]⟩, .bool false, .bool false, .bool false, .bool false]) (by exact BX) (by kernel_rfl) rfl (by kernel_rfl) ?_
          obtain ⟨z8, hz8⟩ : ∃ u, u = za.setRow gb (shC nm ba bn bs bh) := ⟨_, rfl⟩
          rw [← hz8] at B8 hb8 ⊢
          clear hz8 BX
          refine hK.out _ _ hb8 (fun hHeld => ?_)
          clear hK K hb8
          try simp only [Act.put, List.getElem_toArray, List.getElem_cons_succ, List.getElem_cons_zero, List.setIfInBounds_toArray, List.set_cons_succ, List.set_cons_zero]
          refine wpAnyH_take (i := 6) (oi := _) (v := .bool bk) rfl (by kernel_rfl) (by kernel_rfl) (by kernel_rfl) (fun _ _ _ h => h) (Or.inl ⟨by rfl, fun w' hSw => by go_simp⟩) hHeld ?_
          try simp only [Act.put, List.getElem_toArray, List.getElem_cons_succ, List.getElem_cons_zero, List.setIfInBounds_toArray, List.set_cons_succ, List.set_cons_zero]
          refine wpAnyH_take (i := 9) (oi := _) (v := .bool bk) rfl (by kernel_rfl) (by kernel_rfl) (by kernel_rfl) (fun _ _ _ h => h) (Or.inl ⟨by rfl, fun w' hSw => by go_simp⟩) hHeld ?_
          try simp only [Act.put, List.getElem_toArray, List.getElem_cons_succ, List.getElem_cons_zero, List.setIfInBounds_toArray, List.set_cons_succ, List.set_cons_zero]
          refine wpAnyH_done (by kernel_rfl) ?_ _
          simp only [Exit.then]
          apply_assumption
          go_meet
          have K8 := K0.keep hHeld
          have hb9 := hb0.trans (hHeld.mono hb0.size)
          exact ⟨gb, rfl, rfl, B8, K8, hb9⟩
    · go_simp
      obtain ⟨za, hza⟩ : ∃ u, u = z0.alloc (.cells #[.string ⟨#[]⟩, .bool false, .bool false, .bool false, .bool false] 84) := ⟨_, rfl⟩
      have BX := Bk.new z0 #[.string ⟨#[]⟩, .bool false, .bool false, .bool false, .bool false] 84
      have gb7 := hHeld.size
      have hb7 : Below w1.heap.size w1 (z0.alloc (.cells #[.string ⟨#[]⟩, .bool false, .bool false, .bool false, .bool false] 84)) := hHeld.alloc hHeld.size _
      rw [← hza] at BX hb7 ⊢
      clear hza
      obtain ⟨gb, hgb⟩ : ∃ q, q = z0.heap.size := ⟨_, rfl⟩
      rw [← hgb] at BX gb7 ⊢
      clear hgb
      have bxl := BX.lt
      refine hK.out _ _ hb7 (fun hHeld => ?_)
      clear hK K hb7
      try simp only [Act.put, List.getElem_toArray, List.getElem_cons_succ, List.getElem_cons_zero, List.setIfInBounds_toArray, List.set_cons_succ, List.set_cons_zero]
      refine wpAnyH_ready (rs := [0]) (by kernel_rfl) (by simp) ?_
      refine AllReadyH.cons (o := _) rfl (fun K hK => ?_) AllReadyH.nil
      go_simp
      refine (shapes _).mono ?_
      rintro en z1 ⟨b9, rfl, MM, hb9, hb⟩
      have hHeld' := hHeld.trans (hb.mono hHeld.size)
      have BX := BX.keep hb
      have bxl := BX.lt
      refine hK.out _ _ hHeld' (fun hHeld => ?_)
      clear hK K hHeld'
      try simp only [Act.put, List.getElem_toArray, List.getElem_cons_succ, List.getElem_cons_zero, List.setIfInBounds_toArray, List.set_cons_succ, List.set_cons_zero]
      refine wpAnyH_ready (rs := [3]) (by kernel_rfl) (by simp) ?_
      refine AllReadyH.cons (o := _) rfl (fun K hK => ?_) AllReadyH.nil
      have hlk := shapes_run MM o.k true
      rw [HK.out, ← HR.out] at hlk
      simp only [if_true, if_false, Bool.false_eq_true] at hlk
      go_simp
      refine hK.out _ _ hHeld (fun hHeld => ?_)
      clear hK K hlk
      try simp only [Act.put, List.getElem_toArray, List.getElem_cons_succ, List.getElem_cons_zero, List.setIfInBounds_toArray, List.set_cons_succ, List.set_cons_zero]
      refine wpAnyH_take (i := 4) (oi := _) (v := .tuple #[.agg (shC nm ba bn bs bh), .bool bk]) rfl (by kernel_rfl) (by kernel_rfl) (by kernel_rfl) (fun _ _ _ h => h) (Or.inl ⟨by rfl, fun w' hSw => by go_simp⟩) hHeld ?_
      try simp only [Act.put, List.getElem_toArray, List.getElem_cons_succ, List.getElem_cons_zero, List.setIfInBounds_toArray, List.set_cons_succ, List.set_cons_zero]
      refine wpAnyH_take (i := 5) (oi := _) (v := .agg (shC nm ba bn bs bh)) rfl (by kernel_rfl) (by kernel_rfl) (by kernel_rfl) (fun _ _ _ h => h) (Or.inl ⟨by rfl, fun w' hSw => by go_simp⟩) hHeld ?_
      try simp only [Act.put, List.getElem_toArray, List.getElem_cons_succ, List.getElem_cons_zero, List.setIfInBounds_toArray, List.set_cons_succ, List.set_cons_zero]
      refine wpAnyH_ready (rs := [6, 8]) (by kernel_rfl) (by simp) ?_
      refine AllReadyH.cons (o := _) rfl (fun K hK => ?_) (AllReadyH.cons (o := _) rfl (fun K hK => ?_) AllReadyH.nil)
      · go_simp
        refine hK.out _ _ hHeld (fun hHeld => ?_)
        clear hK K
        try simp only [Act.put, List.getElem_toArray, List.getElem_cons_succ, List.getElem_cons_zero, List.setIfInBounds_toArray, List.set_cons_succ, List.set_cons_zero]
        refine wpAnyH_ready (rs := [8]) (by kernel_rfl) (by simp) ?_
        refine AllReadyH.cons (o := _) rfl (fun K hK => ?_) AllReadyH.nil
        have B8 := BX.setRow (shC nm ba bn bs bh)
        have hb8 := below_setRow hHeld gb7 (shC nm ba bn bs bh)
        refine step_row rfl 84 (.tmp 3) (.tmp 10) rfl gb (shC nm ba bn bs bh) rfl rfl 84 (#[.string ⟨#[]⟩, .bool false, .bool false, .bool false, .bool false]) (by exact BX) (by kernel_rfl) rfl (by kernel_rfl) ?_
        obtain ⟨z8, hz8⟩ : ∃ u, u = z1.setRow gb (shC nm ba bn bs bh) := ⟨_, rfl⟩
        rw [← hz8] at B8 hb8 ⊢
        clear hz8 BX
        refine hK.out _ _ hb8 (fun hHeld => ?_)
        clear hK K hb8
        try simp only [Act.put, List.getElem_toArray, List.getElem_cons_succ, List.getElem_cons_zero, List.setIfInBounds_toArray, List.set_cons_succ, List.set_cons_zero]
        refine wpAnyH_take (i := 9) (oi := _) (v := .bool bk) rfl (by kernel_rfl) (by kernel_rfl) (by kernel_rfl) (fun _ _ _ h => h) (Or.inl ⟨by rfl, fun w' hSw => by go_simp⟩) hHeld ?_
        try simp only [Act.put, List.getElem_toArray, List.getElem_cons_succ, List.getElem_cons_zero, List.setIfInBounds_toArray, List.set_cons_succ, List.set_cons_zero]
        refine wpAnyH_done (by kernel_rfl) ?_ _
        simp only [Exit.then]
        apply_assumption
        go_meet
        have K8 := K0.keep hHeld
        have hb9 := hb0.trans (hHeld.mono hb0.size)
        exact ⟨gb, rfl, rfl, B8, K8, hb9⟩
      · have B8 := BX.setRow (shC nm ba bn bs bh)
        have hb8 := below_setRow hHeld gb7 (shC nm ba bn bs bh)
        refine step_row rfl 84 (.tmp 3) (.tmp 10) rfl gb (shC nm ba bn bs bh) rfl rfl 84 (#[.string ⟨#[]⟩, .bool false, .bool false, .bool false, .bool false]) (by exact BX) (by kernel_rfl) rfl (by kernel_rfl) ?_
        obtain ⟨z8, hz8⟩ : ∃ u, u = z1.setRow gb (shC nm ba bn bs bh) := ⟨_, rfl⟩
        rw [← hz8] at B8 hb8 ⊢
        clear hz8 BX
        refine hK.out _ _ hb8 (fun hHeld => ?_)
        clear hK K hb8
        try simp only [Act.put, List.getElem_toArray, List.getElem_cons_succ, List.getElem_cons_zero, List.setIfInBounds_toArray, List.set_cons_succ, List.set_cons_zero]
        refine wpAnyH_take (i := 6) (oi := _) (v := .bool bk) rfl (by kernel_rfl) (by kernel_rfl) (by kernel_rfl) (fun _ _ _ h => h) (Or.inl ⟨by rfl, fun w' hSw => by go_simp⟩) hHeld ?_
        try simp only [Act.put, List.getElem_toArray, List.getElem_cons_succ, List.getElem_cons_zero, List.setIfInBounds_toArray, List.set_cons_succ, List.set_cons_zero]
        refine wpAnyH_take (i := 9) (oi := _) (v := .bool bk) rfl (by kernel_rfl) (by kernel_rfl) (by kernel_rfl) (fun _ _ _ h => h) (Or.inl ⟨by rfl, fun w' hSw => by go_simp⟩) hHeld ?_
        try simp only [Act.put, List.getElem_toArray, List.getElem_cons_succ, List.getElem_cons_zero, List.setIfInBounds_toArray, List.set_cons_succ, List.set_cons_zero]
        refine wpAnyH_done (by kernel_rfl) ?_ _
        simp only [Exit.then]
        apply_assumption
        go_meet
        have K8 := K0.keep hHeld
        have hb9 := hb0.trans (hHeld.mono hb0.size)
        exact ⟨gb, rfl, rfl, B8, K8, hb9⟩
  case rest =>
    revert wc
    intro z8 hcut
    obtain ⟨gb, rfl, rfl, B8, K8, hb9⟩ := hcut
    clear K0 hb0 l0 sz1
    have hlt := B8.lt
    have hlk := K8.lt
    have sz9 := hb9.size
    have b8 := B8.cells
    have k8 := K8.cells
    cases bk
    · go_wp2
      go_ret
      exact ⟨by simp, hb9⟩
    · go_wp2_with (refine wpList_load_row_w rfl 50 _ rfl (w.heap.size) rfl _ (opC o) (0, 0) _ (by exact K8) Tryz.underlying50 rfl (by kernel_rfl) ?_)
      refine (fRightTicket o ba _).mono ?_
      rintro e wA ⟨rfl, hbA⟩
      have KA := (K8.keep hbA).cells
      have BA := (B8.keep hbA).cells
      have hb10 := hb9.trans (hbA.mono hb9.size)
      have hb11 := Lib.hid hb10
      rw [← HBT.out]
      clear b8 k8 K8 B8 hb10 HBT HR HK
      obtain ⟨k, t, x, s, u, b, n⟩ := o
      cases bt <;> cases bn <;> cases bs
      all_goals go_wp2
      all_goals
        go_ret
        refine ⟨?_, hb11.out⟩
        (simp_all) <;> omega
end Go.Proofs.YtpmcedfeiconfaaGreatDoor.Opw
