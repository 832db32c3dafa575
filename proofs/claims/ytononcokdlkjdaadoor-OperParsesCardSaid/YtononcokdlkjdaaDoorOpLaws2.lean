/- Layer 12: the laws OperTexts, OperParses and OperUnlike, walked (made by genoper10.py). -/
import Derived.Test.YtononcokdlkjdaaDoorOpLaws
namespace Go.Proofs.YtononcokdlkjdaaDoor.Opw
open Go Go.RowKit Go.ChangeMaps Go.Proofs.YtononcokdlkjdaaDoor.Gro Go.Proofs.YtononcokdlkjdaaDoor.Own Go.Proofs.YtononcokdlkjdaaDoor.Mr Go.Proofs.YtononcokdlkjdaaDoor.Opn
set_option linter.unusedVariables false
set_option linter.unusedSimpArgs false
section
variable {P : Program} {ops : Array Oper} {S : World → Prop} {a : Act} {o : Oper}
theorem yields_rowW (hw : Region.wanted o (yielded ops a.tmps) = true) (ty : TypeId) (x : Operand) (ho : o.op = .load ty x) (g : Nat) (hx : a.eval x = .pointer (some ⟨g, 0, none⟩)) (cs : Array Value) (t : TypeId) (d : TypeDesc)
    (hC : ∀ w, S w → Bk w g cs t) (hu : P.underlying ty = some d) (hd : (match d with | .struct _ | .array _ _ => true | _ => false) = true) (hi : (P.info? ty).map (·.size) = some cs.size) : YieldsIf P ops S o (.agg cs) a := by
  refine Or.inl ⟨hw, fun w hw => ?_⟩
  unfold execOp
  simp only [ho, hx, Instr.loadAt, Instr.sureAddr, Sem.run_bind, Sem.run_pure, Result.andThen_ok, run_loadVar_row w g t ty cs (0, 0) d (hC w hw) hu hd hi]
end
theorem isEmpty_ne {l : List UInt8} (h : l ≠ []) : l.isEmpty = false := by cases l <;> simp_all
set_option maxRecDepth 100000 in
set_option maxHeartbeats 16000000 in
theorem operParses (l : List UInt8) (w : World) (L : Lb w) (hs : l.length ≤ 9223372036854775807) : Calls Tryd.prog 4 #[strV l] w fun e w' => e = .returned (.bool true) ∧ Below w.heap.size w w' := by
  have hz0 := zero_op
  have hb0 := build_op0
  have HL := Lib.hid L
  clear L
  by_cases hl : 100 < l.length
  · go_enter Tryd.func4, Tryd.ntmps4
    go_wp2_with fail
    refine (awake w HL.out).mono ?_
    rintro e w1 ⟨rfl, hb1⟩
    go_wp2_with fail
    go_ret
    exact ⟨rfl, hb1⟩
  have hl' : l.length ≤ 100 := by omega
  clear hl
  go_enter Tryd.func4, Tryd.ntmps4
  go_wp2_with fail
  refine (awake w HL.out).mono ?_
  rintro e w1 ⟨rfl, hb1⟩
  have sz1 := hb1.size
  have hP := fParse l (by omega) w1 (HL.out.keep hb1)
  unfold ParsePost at hP
  cases hp : parseL l with
  | none =>
    rw [hp] at hP
    simp only [Option.getD_none, Option.isSome_none, Bool.false_eq_true, if_false] at hP
    have HP := Lib.hid hP
    clear hP hp
    go_wp2_with fail
    refine HP.out.mono ?_
    rintro e w2 ⟨rfl, hb2⟩
    have b2 := hb1.trans (hb2.mono sz1)
    have sz2 := b2.size
    have X2 := Bk.new w2 (opC OpD.zero) 24
    obtain ⟨w3, hw3⟩ : ∃ q, q = (w2.alloc (.cells (opC OpD.zero) 24)).setRow w2.heap.size (opC OpD.zero) := ⟨_, rfl⟩
    have X3 : Bk w3 w2.heap.size (opC OpD.zero) 24 := by rw [hw3]; exact X2.setRow _
    have b23 : Below w2.heap.size w2 w3 := by rw [hw3]; exact below_setRow ((Below.refl _ _).alloc (Nat.le_refl _) _) (Nat.le_refl _) _
    have b3 := b2.trans (b23.mono sz2)
    clear b23 HP hb2 b2 hb1
    go_wp2_with (first | ((refine wpList_store_row rfl 24 _ _ rfl w2.heap.size (opC OpD.zero) rfl rfl _ _ (by exact X2) (by kernel_rfl) (by kernel_rfl) (by kernel_rfl) ?_); rw [← hw3]; clear hw3 X2) | (refine wpList_load_row_w rfl 24 _ rfl w2.heap.size rfl _ (opC OpD.zero) (0, 0) _ (by exact X3) Tryd.underlying24 rfl (by kernel_rfl) ?_))
    go_ret
    exact ⟨rfl, b3⟩
  | some o =>
    obtain ⟨hr, htx⟩ := parse_some hp
    have hF : o.Fits := by
      unfold parseL at hp
      split at hp
      · cases hp
      · rename_i o' ho
        split at hp
        · injection hp with hp
          exact hp ▸ read_fits ho
        · cases hp
    rw [hp] at hP
    simp only [Option.getD_some, Option.isSome_some, if_true] at hP
    have HP := Lib.hid hP
    have hRR := refRight o
    rw [hr] at hRR
    have hRT := refText o hF
    rw [if_pos hr, htx] at hRT
    have HRR := Lib.hid hRR
    have HRT := Lib.hid hRT
    clear hP hp hr htx hF hRR hRT
    go_wp2_with fail
    refine HP.out.mono ?_
    rintro e w2 ⟨rfl, hb2⟩
    have b2 := hb1.trans (hb2.mono sz1)
    have sz2 := b2.size
    have X2 := Bk.new w2 (opC OpD.zero) 24
    obtain ⟨w3, hw3⟩ : ∃ q, q = (w2.alloc (.cells (opC OpD.zero) 24)).setRow w2.heap.size (opC o) := ⟨_, rfl⟩
    have X3 : Bk w3 w2.heap.size (opC o) 24 := by rw [hw3]; exact X2.setRow _
    have b23 : Below w2.heap.size w2 w3 := by rw [hw3]; exact below_setRow ((Below.refl _ _).alloc (Nat.le_refl _) _) (Nat.le_refl _) _
    have b3 := b2.trans (b23.mono sz2)
    clear b23 HP hb2 b2 hb1
    go_wp2_with (first | ((refine wpList_store_row rfl 24 _ _ rfl w2.heap.size (opC o) rfl rfl _ _ (by exact X2) (by kernel_rfl) (by kernel_rfl) (by kernel_rfl) ?_); rw [← hw3]; clear hw3 X2) | (refine wpList_load_row_w rfl 24 _ rfl w2.heap.size rfl _ (opC o) (0, 0) _ (by exact X3) Tryd.underlying24 rfl (by kernel_rfl) ?_))
    refine (HRR.out _).mono ?_
    rintro e w4 ⟨rfl, hb4⟩
    have X4 := X3.keep hb4
    have b4 := b3.trans (hb4.mono b3.size)
    clear X3 hb4 b3
    go_wp2_with (refine wpList_load_row_w rfl 24 _ rfl w2.heap.size rfl _ (opC o) (0, 0) _ (by exact X4) Tryd.underlying24 rfl (by kernel_rfl) ?_)
    refine (HRT.out _).mono ?_
    rintro e w5 ⟨rfl, hb5⟩
    have b5 := b4.trans (hb5.mono b4.size)
    go_wp2_with fail
    go_ret
    exact ⟨by simp, b5⟩
set_option maxRecDepth 100000 in
set_option maxHeartbeats 16000000 in
theorem operUnlike (p q : OpD) (hp : p.Fits) (hq : q.Fits) (w : World) (L : Lb w) : Calls Tryd.prog 5 #[opV p, opV q] w fun e w' => e = .returned (.bool true) ∧ Below w.heap.size w w' := by
  have HL := Lib.hid L
  have K0 := (Bk.new w (opC p) 24).alloc (.cells (opC q) 24)
  have J0 := Bk.new (w.alloc (.cells (opC p) 24)) (opC q) 24
  have hb0 : Below w.heap.size w ((w.alloc (.cells (opC p) 24)).alloc (.cells (opC q) 24)) := ((Below.refl _ _).alloc (Nat.le_refl _) _).alloc (by simp) _
  have es : (w.alloc (.cells (opC p) 24)).heap.size = w.heap.size + 1 := by simp
  rw [es] at J0
  obtain ⟨w0, hw0⟩ : ∃ u, u = (w.alloc (.cells (opC p) 24)).alloc (.cells (opC q) 24) := ⟨_, rfl⟩
  rw [← hw0] at K0 J0 hb0
  have hA := awake w0 (L.keep hb0)
  rw [hw0] at hA
  have HA := Lib.hid hA
  have HW0 := Lib.hid hw0
  have hall : right p = true → right q = true → (text p == text q) = decide (p = q) := fun h1 h2 => by
    by_cases h : p = q
    · rw [h]; simp
    · have : ¬ text p = text q := fun e => h (text_inj hp hq h1 h2 e)
      rw [decide_eq_false h]
      simpa using this
  have hP := fText p hp
  have hQ := fText q hq
  have HALL := Lib.hid hall
  clear L es hw0 hA hall
  cases hr : right p
  · cases hr2 : right q
    · rw [hr] at hP
      rw [hr2] at hQ
      simp only [Bool.false_eq_true, if_false] at hP
      simp only [Bool.false_eq_true, if_false] at hQ
      have HP := Lib.hid hP
      have HQ := Lib.hid hQ
      clear hP hQ hr hr2 HALL
      go_enter Tryd.func5, Tryd.ntmps5
      go_wp2_with fail
      refine HA.out.mono ?_
      rintro e w1 ⟨rfl, hb1⟩
      rw [← HW0.out] at hb1
      have K1 := K0.keep hb1
      have J1 := J0.keep hb1
      have b1 := hb0.trans (hb1.mono hb0.size)
      clear K0 J0 hb0 hb1 HA HW0
      go_wp2_with (refine wpList_load_row rfl 24 _ rfl w.heap.size rfl _ (opC p) (0, 0) _ (by exact K1) Tryd.underlying24 rfl (by kernel_rfl) ?_)
      refine (HP.out _ (HL.out.keep b1)).mono ?_
      rintro e w2 ⟨rfl, hb2⟩
      have K2 := K1.keep hb2
      have J2 := J1.keep hb2
      have b2 := b1.trans (hb2.mono b1.size)
      clear K1 J1 b1 hb2
      go_wp2_with (refine wpList_load_row rfl 24 _ rfl (w.heap.size + 1) rfl _ (opC q) (0, 0) _ (by exact J2) Tryd.underlying24 rfl (by kernel_rfl) ?_)
      refine (HQ.out _ (HL.out.keep b2)).mono ?_
      rintro e w3 ⟨rfl, hb3⟩
      have K3 := K2.keep hb3
      have J3 := J2.keep hb3
      have b3 := b2.trans (hb3.mono b2.size)
      clear K2 J2 b2 hb3 HP HQ
      go_wp2_with fail
      go_ret
      exact ⟨rfl, b3⟩
    · rw [hr] at hP
      rw [hr2] at hQ
      simp only [Bool.false_eq_true, if_false] at hP
      simp only [if_true] at hQ
      have HP := Lib.hid hP
      have HQ := Lib.hid hQ
      clear hP hQ hr hr2 HALL
      go_enter Tryd.func5, Tryd.ntmps5
      go_wp2_with fail
      refine HA.out.mono ?_
      rintro e w1 ⟨rfl, hb1⟩
      rw [← HW0.out] at hb1
      have K1 := K0.keep hb1
      have J1 := J0.keep hb1
      have b1 := hb0.trans (hb1.mono hb0.size)
      clear K0 J0 hb0 hb1 HA HW0
      go_wp2_with (refine wpList_load_row rfl 24 _ rfl w.heap.size rfl _ (opC p) (0, 0) _ (by exact K1) Tryd.underlying24 rfl (by kernel_rfl) ?_)
      refine (HP.out _ (HL.out.keep b1)).mono ?_
      rintro e w2 ⟨rfl, hb2⟩
      have K2 := K1.keep hb2
      have J2 := J1.keep hb2
      have b2 := b1.trans (hb2.mono b1.size)
      clear K1 J1 b1 hb2
      go_wp2_with (refine wpList_load_row rfl 24 _ rfl (w.heap.size + 1) rfl _ (opC q) (0, 0) _ (by exact J2) Tryd.underlying24 rfl (by kernel_rfl) ?_)
      refine (HQ.out _ (HL.out.keep b2)).mono ?_
      rintro e w3 ⟨rfl, hb3⟩
      have K3 := K2.keep hb3
      have J3 := J2.keep hb3
      have b3 := b2.trans (hb3.mono b2.size)
      clear K2 J2 b2 hb3 HP HQ
      go_wp2_with fail
      go_ret
      exact ⟨rfl, b3⟩
  · cases hr2 : right q
    · rw [hr] at hP
      rw [hr2] at hQ
      simp only [if_true] at hP
      simp only [Bool.false_eq_true, if_false] at hQ
      have HP := Lib.hid hP
      have HQ := Lib.hid hQ
      clear hP hQ hr hr2 HALL
      go_enter Tryd.func5, Tryd.ntmps5
      go_wp2_with fail
      refine HA.out.mono ?_
      rintro e w1 ⟨rfl, hb1⟩
      rw [← HW0.out] at hb1
      have K1 := K0.keep hb1
      have J1 := J0.keep hb1
      have b1 := hb0.trans (hb1.mono hb0.size)
      clear K0 J0 hb0 hb1 HA HW0
      go_wp2_with (refine wpList_load_row rfl 24 _ rfl w.heap.size rfl _ (opC p) (0, 0) _ (by exact K1) Tryd.underlying24 rfl (by kernel_rfl) ?_)
      refine (HP.out _ (HL.out.keep b1)).mono ?_
      rintro e w2 ⟨rfl, hb2⟩
      have K2 := K1.keep hb2
      have J2 := J1.keep hb2
      have b2 := b1.trans (hb2.mono b1.size)
      clear K1 J1 b1 hb2
      go_wp2_with (refine wpList_load_row rfl 24 _ rfl (w.heap.size + 1) rfl _ (opC q) (0, 0) _ (by exact J2) Tryd.underlying24 rfl (by kernel_rfl) ?_)
      refine (HQ.out _ (HL.out.keep b2)).mono ?_
      rintro e w3 ⟨rfl, hb3⟩
      have K3 := K2.keep hb3
      have J3 := J2.keep hb3
      have b3 := b2.trans (hb3.mono b2.size)
      clear K2 J2 b2 hb3 HP HQ
      go_wp2_with fail
      go_ret
      exact ⟨rfl, b3⟩
    · rw [hr] at hP
      rw [hr2] at hQ
      simp only [if_true] at hP
      simp only [if_true] at hQ
      have he := HALL.out hr hr2
      obtain ⟨t1, ht1⟩ : ∃ u, u = text p := ⟨_, rfl⟩
      obtain ⟨t2, ht2⟩ : ∃ u, u = text q := ⟨_, rfl⟩
      rw [← ht1, ← ht2] at he
      rw [← ht1] at hP
      rw [← ht2] at hQ
      have HE := Lib.hid he
      clear he ht1 ht2
      have HP := Lib.hid hP
      have HQ := Lib.hid hQ
      clear hP hQ hr hr2 HALL
      go_enter Tryd.func5, Tryd.ntmps5
      go_wp2_with fail
      refine HA.out.mono ?_
      rintro e w1 ⟨rfl, hb1⟩
      rw [← HW0.out] at hb1
      have K1 := K0.keep hb1
      have J1 := J0.keep hb1
      have b1 := hb0.trans (hb1.mono hb0.size)
      clear K0 J0 hb0 hb1 HA HW0
      go_wp2_with (refine wpList_load_row rfl 24 _ rfl w.heap.size rfl _ (opC p) (0, 0) _ (by exact K1) Tryd.underlying24 rfl (by kernel_rfl) ?_)
      refine (HP.out _ (HL.out.keep b1)).mono ?_
      rintro e w2 ⟨rfl, hb2⟩
      have K2 := K1.keep hb2
      have J2 := J1.keep hb2
      have b2 := b1.trans (hb2.mono b1.size)
      clear K1 J1 b1 hb2
      go_wp2_with (refine wpList_load_row rfl 24 _ rfl (w.heap.size + 1) rfl _ (opC q) (0, 0) _ (by exact J2) Tryd.underlying24 rfl (by kernel_rfl) ?_)
      refine (HQ.out _ (HL.out.keep b2)).mono ?_
      rintro e w3 ⟨rfl, hb3⟩
      have K3 := K2.keep hb3
      have J3 := J2.keep hb3
      have b3 := b2.trans (hb3.mono b2.size)
      clear K2 J2 b2 hb3 HP HQ
      go_wp2_with (first | (refine wpList_load_row_w rfl 24 _ rfl w.heap.size rfl _ (opC p) (0, 0) _ (by exact K3) Tryd.underlying24 rfl (by kernel_rfl) ?_) | (refine wpList_load_row_w rfl 24 _ rfl (w.heap.size + 1) rfl _ (opC q) (0, 0) _ (by exact J3) Tryd.underlying24 rfl (by kernel_rfl) ?_))
      all_goals
        go_ret
        refine ⟨?_, b3⟩
        have he := HE.out
        clear K3 J3 HE
        by_cases hpq : p = q
        · rw [decide_eq_true hpq] at he
          subst hpq
          simp_all
        · rw [decide_eq_false hpq] at he
          first
            | (simp [he]; done)
            | (exfalso; apply hpq; cases p; cases q; simp_all)
set_option maxRecDepth 100000 in
set_option maxHeartbeats 16000000 in
theorem operTexts (o : OpD) (hF : o.Fits) (w : World) (L : Lb w) : Calls Tryd.prog 3 #[opV o] w fun e w' => e = .returned (.bool true) ∧ Below w.heap.size w w' := by
  have hz0 := zero_op
  have HL := Lib.hid L
  have K0 := Bk.new w (opC o) 24
  have hb0 : Below w.heap.size w (w.alloc (.cells (opC o) 24)) := (Below.refl _ _).alloc (Nat.le_refl _) _
  obtain ⟨w0, hw0⟩ : ∃ u, u = w.alloc (.cells (opC o) 24) := ⟨_, rfl⟩
  rw [← hw0] at K0 hb0
  have hA := awake w0 (L.keep hb0)
  rw [hw0] at hA
  have HAW := Lib.hid hA
  have HW0 := Lib.hid hw0
  have hT := fText o hF
  have hRT := refText o hF
  have hR := fRight o
  have hRR := refRight o
  have HA := Lib.hid (fAsks o)
  have HRA := Lib.hid (refAsks o)
  have HS := Lib.hid (fShares o)
  have HRS := Lib.hid (refShares o)
  obtain ⟨ba, hba⟩ : ∃ q, q = askB o.k := ⟨_, rfl⟩
  obtain ⟨bs, hbs⟩ : ∃ q, q = sharesB o.k := ⟨_, rfl⟩
  rw [← hba] at HA HRA
  rw [← hbs] at HS HRS
  clear L hw0 hA hba hbs
  cases hr : right o
  · rw [hr] at hT hRT hR hRR
    simp only [Bool.false_eq_true, if_false] at hT hRT
    have HT := Lib.hid hT
    have HRT := Lib.hid hRT
    have HR := Lib.hid hR
    have HRR := Lib.hid hRR
    clear hT hRT hR hRR hr
    go_enter Tryd.func3, Tryd.ntmps3
    go_wp2_with fail
    refine HAW.out.mono ?_
    rintro e w1 ⟨rfl, hb1⟩
    rw [← HW0.out] at hb1
    have K1 := K0.keep hb1
    have b1 := hb0.trans (hb1.mono hb0.size)
    clear K0 hb0 hb1 HAW HW0
    go_wp2_with (refine wpList_load_row rfl 24 _ rfl w.heap.size rfl _ (opC o) (0, 0) _ (by exact K1) Tryd.underlying24 rfl (by kernel_rfl) ?_)
    refine (HT.out _ (HL.out.keep b1)).mono ?_
    rintro e w2 ⟨rfl, hb2⟩
    have K2 := K1.keep hb2
    have b2 := b1.trans (hb2.mono b1.size)
    clear K1 b1 hb2
    go_wp2_with (refine wpList_load_row rfl 24 _ rfl w.heap.size rfl _ (opC o) (0, 0) _ (by exact K2) Tryd.underlying24 rfl (by kernel_rfl) ?_)
    refine (HRT.out _).mono ?_
    rintro e w3 ⟨rfl, hb3⟩
    have K0 := K2.keep hb3
    have b3 := b2.trans (hb3.mono b2.size)
    clear K2 b2 hb3
    go_upto_region 5 with fail
    have hS0 : Below w3.heap.size w3 w3.drew := Below.drew (Below.refl _ _)
    refine wp_region_held_drew (S := fun w' => Below w3.heap.size w3 w') (by kernel_rfl) hS0 (fun hHeld => ?_)
    clear hS0
    generalize w3.drew = z0 at *
    refine wpAnyH_take (i := 0) (oi := _) (v := .agg (opC o)) rfl (by kernel_rfl) (by kernel_rfl) (by kernel_rfl) (fun _ _ _ h => h) (yields_rowW rfl 24 _ rfl (w.heap.size) rfl (opC o) 24 _ (fun w' hw' => Bk.keep K0 hw') Tryd.underlying24 rfl (by kernel_rfl)) hHeld ?_
    try simp only [Act.put, List.getElem_toArray, List.getElem_cons_succ, List.getElem_cons_zero, List.setIfInBounds_toArray, List.set_cons_succ, List.set_cons_zero]
    refine wpAnyH_take (i := 2) (oi := _) (v := .agg (opC o)) rfl (by kernel_rfl) (by kernel_rfl) (by kernel_rfl) (fun _ _ _ h => h) (yields_rowW rfl 24 _ rfl (w.heap.size) rfl (opC o) 24 _ (fun w' hw' => Bk.keep K0 hw') Tryd.underlying24 rfl (by kernel_rfl)) hHeld ?_
    try simp only [Act.put, List.getElem_toArray, List.getElem_cons_succ, List.getElem_cons_zero, List.setIfInBounds_toArray, List.set_cons_succ, List.set_cons_zero]
    refine wpAnyH_ready (rs := [1]) (by kernel_rfl) (by simp) ?_
    refine AllReadyH.cons (o := _) rfl (fun K hK => ?_) AllReadyH.nil
    go_simp
    refine (HR.out _).mono ?_
    rintro en z1 ⟨rfl, hb9⟩
    have hHeld' := hHeld.trans (hb9.mono hHeld.size)
    refine hK.out _ _ hHeld' (fun hHeld => ?_)
    clear hK K hHeld' hb9
    try simp only [Act.put, List.getElem_toArray, List.getElem_cons_succ, List.getElem_cons_zero, List.setIfInBounds_toArray, List.set_cons_succ, List.set_cons_zero]
    refine wpAnyH_ready (rs := [3]) (by kernel_rfl) (by simp) ?_
    refine AllReadyH.cons (o := _) rfl (fun K hK => ?_) AllReadyH.nil
    go_simp
    refine (HRR.out _).mono ?_
    rintro en z2 ⟨rfl, hb9⟩
    have hHeld' := hHeld.trans (hb9.mono hHeld.size)
    refine hK.out _ _ hHeld' (fun hHeld => ?_)
    clear hK K hHeld' hb9
    try simp only [Act.put, List.getElem_toArray, List.getElem_cons_succ, List.getElem_cons_zero, List.setIfInBounds_toArray, List.set_cons_succ, List.set_cons_zero]
    refine wpAnyH_take (i := 4) (oi := _) (v := .bool false) rfl (by kernel_rfl) (by kernel_rfl) (by kernel_rfl) (fun _ _ _ h => h) (Or.inl ⟨by rfl, fun w' hSw => by go_simp⟩) hHeld ?_
    try simp only [Act.put, List.getElem_toArray, List.getElem_cons_succ, List.getElem_cons_zero, List.setIfInBounds_toArray, List.set_cons_succ, List.set_cons_zero]
    refine wpAnyH_take (i := 5) (oi := _) (v := .bool false) rfl (by kernel_rfl) (by kernel_rfl) (by kernel_rfl) (fun _ _ _ h => h) (Or.inl ⟨by rfl, fun w' hSw => by go_simp⟩) hHeld ?_
    try simp only [Act.put, List.getElem_toArray, List.getElem_cons_succ, List.getElem_cons_zero, List.setIfInBounds_toArray, List.set_cons_succ, List.set_cons_zero]
    refine wpAnyH_take (i := 6) (oi := _) (v := strV []) rfl (by kernel_rfl) (by kernel_rfl) (by kernel_rfl) (fun _ _ _ h => h) (Or.inl ⟨by rfl, fun w' hSw => by go_simp⟩) hHeld ?_
    try simp only [Act.put, List.getElem_toArray, List.getElem_cons_succ, List.getElem_cons_zero, List.setIfInBounds_toArray, List.set_cons_succ, List.set_cons_zero]
    refine wpAnyH_take (i := 7) (oi := _) (v := strV []) rfl (by kernel_rfl) (by kernel_rfl) (by kernel_rfl) (fun _ _ _ h => h) (Or.inl ⟨by rfl, fun w' hSw => by go_simp⟩) hHeld ?_
    try simp only [Act.put, List.getElem_toArray, List.getElem_cons_succ, List.getElem_cons_zero, List.setIfInBounds_toArray, List.set_cons_succ, List.set_cons_zero]
    refine wpAnyH_take (i := 8) (oi := _) (v := .bool false) rfl (by kernel_rfl) (by kernel_rfl) (by kernel_rfl) (fun _ _ _ h => h) (Or.inl ⟨by rfl, fun w' hSw => by go_simp⟩) hHeld ?_
    try simp only [Act.put, List.getElem_toArray, List.getElem_cons_succ, List.getElem_cons_zero, List.setIfInBounds_toArray, List.set_cons_succ, List.set_cons_zero]
    refine wpAnyH_take (i := 9) (oi := _) (v := .bool false) rfl (by kernel_rfl) (by kernel_rfl) (by kernel_rfl) (fun _ _ _ h => h) (Or.inl ⟨by rfl, fun w' hSw => by go_simp⟩) hHeld ?_
    try simp only [Act.put, List.getElem_toArray, List.getElem_cons_succ, List.getElem_cons_zero, List.setIfInBounds_toArray, List.set_cons_succ, List.set_cons_zero]
    refine wpAnyH_take (i := 10) (oi := _) (v := .bool false) rfl (by kernel_rfl) (by kernel_rfl) (by kernel_rfl) (fun _ _ _ h => h) (Or.inl ⟨by rfl, fun w' hSw => by go_simp⟩) hHeld ?_
    try simp only [Act.put, List.getElem_toArray, List.getElem_cons_succ, List.getElem_cons_zero, List.setIfInBounds_toArray, List.set_cons_succ, List.set_cons_zero]
    refine wpAnyH_take (i := 11) (oi := _) (v := .int .i64 3) rfl (by kernel_rfl) (by kernel_rfl) (by kernel_rfl) (fun _ _ _ h => h) (Or.inl ⟨by rfl, fun w' hSw => by go_simp⟩) hHeld ?_
    try simp only [Act.put, List.getElem_toArray, List.getElem_cons_succ, List.getElem_cons_zero, List.setIfInBounds_toArray, List.set_cons_succ, List.set_cons_zero]
    refine wpAnyH_take (i := 12) (oi := _) (v := .bool false) rfl (by kernel_rfl) (by kernel_rfl) (by kernel_rfl) (fun _ _ _ h => h) (Or.inl ⟨by rfl, fun w' hSw => by go_simp⟩) hHeld ?_
    try simp only [Act.put, List.getElem_toArray, List.getElem_cons_succ, List.getElem_cons_zero, List.setIfInBounds_toArray, List.set_cons_succ, List.set_cons_zero]
    refine wpAnyH_take (i := 13) (oi := _) (v := strV []) rfl (by kernel_rfl) (by kernel_rfl) (by kernel_rfl) (fun _ _ _ h => h) (Or.inl ⟨by rfl, fun w' hSw => by go_simp⟩) hHeld ?_
    try simp only [Act.put, List.getElem_toArray, List.getElem_cons_succ, List.getElem_cons_zero, List.setIfInBounds_toArray, List.set_cons_succ, List.set_cons_zero]
    refine wpAnyH_take (i := 14) (oi := _) (v := .bool false) rfl (by kernel_rfl) (by kernel_rfl) (by kernel_rfl) (fun _ _ _ h => h) (Or.inl ⟨by rfl, fun w' hSw => by go_simp⟩) hHeld ?_
    try simp only [Act.put, List.getElem_toArray, List.getElem_cons_succ, List.getElem_cons_zero, List.setIfInBounds_toArray, List.set_cons_succ, List.set_cons_zero]
    refine wpAnyH_take (i := 15) (oi := _) (v := .bool false) rfl (by kernel_rfl) (by kernel_rfl) (by kernel_rfl) (fun _ _ _ h => h) (Or.inl ⟨by rfl, fun w' hSw => by go_simp⟩) hHeld ?_
    try simp only [Act.put, List.getElem_toArray, List.getElem_cons_succ, List.getElem_cons_zero, List.setIfInBounds_toArray, List.set_cons_succ, List.set_cons_zero]
    refine wpAnyH_take (i := 16) (oi := _) (v := .bool false) rfl (by kernel_rfl) (by kernel_rfl) (by kernel_rfl) (fun _ _ _ h => h) (Or.inl ⟨by rfl, fun w' hSw => by go_simp⟩) hHeld ?_
    try simp only [Act.put, List.getElem_toArray, List.getElem_cons_succ, List.getElem_cons_zero, List.setIfInBounds_toArray, List.set_cons_succ, List.set_cons_zero]
    refine wpAnyH_take (i := 17) (oi := _) (v := .bool false) rfl (by kernel_rfl) (by kernel_rfl) (by kernel_rfl) (fun _ _ _ h => h) (Or.inl ⟨by rfl, fun w' hSw => by go_simp⟩) hHeld ?_
    try simp only [Act.put, List.getElem_toArray, List.getElem_cons_succ, List.getElem_cons_zero, List.setIfInBounds_toArray, List.set_cons_succ, List.set_cons_zero]
    refine wpAnyH_take (i := 18) (oi := _) (v := .int .i64 3) rfl (by kernel_rfl) (by kernel_rfl) (by kernel_rfl) (fun _ _ _ h => h) (Or.inl ⟨by rfl, fun w' hSw => by go_simp⟩) hHeld ?_
    try simp only [Act.put, List.getElem_toArray, List.getElem_cons_succ, List.getElem_cons_zero, List.setIfInBounds_toArray, List.set_cons_succ, List.set_cons_zero]
    refine wpAnyH_take (i := 19) (oi := _) (v := .bool true) rfl (by kernel_rfl) (by kernel_rfl) (by kernel_rfl) (fun _ _ _ h => h) (Or.inl ⟨by rfl, fun w' hSw => by go_simp⟩) hHeld ?_
    try simp only [Act.put, List.getElem_toArray, List.getElem_cons_succ, List.getElem_cons_zero, List.setIfInBounds_toArray, List.set_cons_succ, List.set_cons_zero]
    refine wpAnyH_take (i := 20) (oi := _) (v := .bool true) rfl (by kernel_rfl) (by kernel_rfl) (by kernel_rfl) (fun _ _ _ h => h) (Or.inl ⟨by rfl, fun w' hSw => by go_simp⟩) hHeld ?_
    try simp only [Act.put, List.getElem_toArray, List.getElem_cons_succ, List.getElem_cons_zero, List.setIfInBounds_toArray, List.set_cons_succ, List.set_cons_zero]
    refine wpAnyH_take (i := 21) (oi := _) (v := .int .i64 3) rfl (by kernel_rfl) (by kernel_rfl) (by kernel_rfl) (fun _ _ _ h => h) (Or.inl ⟨by rfl, fun w' hSw => by go_simp⟩) hHeld ?_
    try simp only [Act.put, List.getElem_toArray, List.getElem_cons_succ, List.getElem_cons_zero, List.setIfInBounds_toArray, List.set_cons_succ, List.set_cons_zero]
    refine wpAnyH_take (i := 22) (oi := _) (v := .bool false) rfl (by kernel_rfl) (by kernel_rfl) (by kernel_rfl) (fun _ _ _ h => h) (Or.inl ⟨by rfl, fun w' hSw => by go_simp⟩) hHeld ?_
    try simp only [Act.put, List.getElem_toArray, List.getElem_cons_succ, List.getElem_cons_zero, List.setIfInBounds_toArray, List.set_cons_succ, List.set_cons_zero]
    refine wpAnyH_take (i := 23) (oi := _) (v := .bool false) rfl (by kernel_rfl) (by kernel_rfl) (by kernel_rfl) (fun _ _ _ h => h) (Or.inl ⟨by rfl, fun w' hSw => by go_simp⟩) hHeld ?_
    try simp only [Act.put, List.getElem_toArray, List.getElem_cons_succ, List.getElem_cons_zero, List.setIfInBounds_toArray, List.set_cons_succ, List.set_cons_zero]
    refine wpAnyH_take (i := 24) (oi := _) (v := .bool false) rfl (by kernel_rfl) (by kernel_rfl) (by kernel_rfl) (fun _ _ _ h => h) (Or.inl ⟨by rfl, fun w' hSw => by go_simp⟩) hHeld ?_
    try simp only [Act.put, List.getElem_toArray, List.getElem_cons_succ, List.getElem_cons_zero, List.setIfInBounds_toArray, List.set_cons_succ, List.set_cons_zero]
    refine wpAnyH_take (i := 25) (oi := _) (v := .bool false) rfl (by kernel_rfl) (by kernel_rfl) (by kernel_rfl) (fun _ _ _ h => h) (Or.inl ⟨by rfl, fun w' hSw => by go_simp⟩) hHeld ?_
    try simp only [Act.put, List.getElem_toArray, List.getElem_cons_succ, List.getElem_cons_zero, List.setIfInBounds_toArray, List.set_cons_succ, List.set_cons_zero]
    refine wpAnyH_take (i := 26) (oi := _) (v := .agg (opC o)) rfl (by kernel_rfl) (by kernel_rfl) (by kernel_rfl) (fun _ _ _ h => h) (yields_rowW rfl 24 _ rfl (w.heap.size) rfl (opC o) 24 _ (fun w' hw' => Bk.keep K0 hw') Tryd.underlying24 rfl (by kernel_rfl)) hHeld ?_
    try simp only [Act.put, List.getElem_toArray, List.getElem_cons_succ, List.getElem_cons_zero, List.setIfInBounds_toArray, List.set_cons_succ, List.set_cons_zero]
    refine wpAnyH_take (i := 28) (oi := _) (v := .agg (opC o)) rfl (by kernel_rfl) (by kernel_rfl) (by kernel_rfl) (fun _ _ _ h => h) (yields_rowW rfl 24 _ rfl (w.heap.size) rfl (opC o) 24 _ (fun w' hw' => Bk.keep K0 hw') Tryd.underlying24 rfl (by kernel_rfl)) hHeld ?_
    try simp only [Act.put, List.getElem_toArray, List.getElem_cons_succ, List.getElem_cons_zero, List.setIfInBounds_toArray, List.set_cons_succ, List.set_cons_zero]
    refine wpAnyH_ready (rs := [27]) (by kernel_rfl) (by simp) ?_
    refine AllReadyH.cons (o := _) rfl (fun K hK => ?_) AllReadyH.nil
    go_simp
    refine (HA.out _).mono ?_
    rintro en z3 ⟨rfl, hb9⟩
    have hHeld' := hHeld.trans (hb9.mono hHeld.size)
    refine hK.out _ _ hHeld' (fun hHeld => ?_)
    clear hK K hHeld' hb9
    try simp only [Act.put, List.getElem_toArray, List.getElem_cons_succ, List.getElem_cons_zero, List.setIfInBounds_toArray, List.set_cons_succ, List.set_cons_zero]
    refine wpAnyH_ready (rs := [29]) (by kernel_rfl) (by simp) ?_
    refine AllReadyH.cons (o := _) rfl (fun K hK => ?_) AllReadyH.nil
    go_simp
    refine (HRA.out _).mono ?_
    rintro en z4 ⟨rfl, hb9⟩
    have hHeld' := hHeld.trans (hb9.mono hHeld.size)
    refine hK.out _ _ hHeld' (fun hHeld => ?_)
    clear hK K hHeld' hb9
    try simp only [Act.put, List.getElem_toArray, List.getElem_cons_succ, List.getElem_cons_zero, List.setIfInBounds_toArray, List.set_cons_succ, List.set_cons_zero]
    refine wpAnyH_take (i := 30) (oi := _) (v := .bool false) rfl (by kernel_rfl) (by kernel_rfl) (by kernel_rfl) (fun _ _ _ h => h) (Or.inl ⟨by rfl, fun w' hSw => by go_simp⟩) hHeld ?_
    try simp only [Act.put, List.getElem_toArray, List.getElem_cons_succ, List.getElem_cons_zero, List.setIfInBounds_toArray, List.set_cons_succ, List.set_cons_zero]
    refine wpAnyH_take (i := 31) (oi := _) (v := .bool false) rfl (by kernel_rfl) (by kernel_rfl) (by kernel_rfl) (fun _ _ _ h => h) (Or.inl ⟨by rfl, fun w' hSw => by go_simp⟩) hHeld ?_
    try simp only [Act.put, List.getElem_toArray, List.getElem_cons_succ, List.getElem_cons_zero, List.setIfInBounds_toArray, List.set_cons_succ, List.set_cons_zero]
    refine wpAnyH_take (i := 32) (oi := _) (v := .bool false) rfl (by kernel_rfl) (by kernel_rfl) (by kernel_rfl) (fun _ _ _ h => h) (Or.inl ⟨by rfl, fun w' hSw => by go_simp⟩) hHeld ?_
    try simp only [Act.put, List.getElem_toArray, List.getElem_cons_succ, List.getElem_cons_zero, List.setIfInBounds_toArray, List.set_cons_succ, List.set_cons_zero]
    refine wpAnyH_take (i := 33) (oi := _) (v := .agg (opC o)) rfl (by kernel_rfl) (by kernel_rfl) (by kernel_rfl) (fun _ _ _ h => h) (yields_rowW rfl 24 _ rfl (w.heap.size) rfl (opC o) 24 _ (fun w' hw' => Bk.keep K0 hw') Tryd.underlying24 rfl (by kernel_rfl)) hHeld ?_
    try simp only [Act.put, List.getElem_toArray, List.getElem_cons_succ, List.getElem_cons_zero, List.setIfInBounds_toArray, List.set_cons_succ, List.set_cons_zero]
    refine wpAnyH_take (i := 35) (oi := _) (v := .agg (opC o)) rfl (by kernel_rfl) (by kernel_rfl) (by kernel_rfl) (fun _ _ _ h => h) (yields_rowW rfl 24 _ rfl (w.heap.size) rfl (opC o) 24 _ (fun w' hw' => Bk.keep K0 hw') Tryd.underlying24 rfl (by kernel_rfl)) hHeld ?_
    try simp only [Act.put, List.getElem_toArray, List.getElem_cons_succ, List.getElem_cons_zero, List.setIfInBounds_toArray, List.set_cons_succ, List.set_cons_zero]
    refine wpAnyH_ready (rs := [34]) (by kernel_rfl) (by simp) ?_
    refine AllReadyH.cons (o := _) rfl (fun K hK => ?_) AllReadyH.nil
    go_simp
    refine (HS.out _).mono ?_
    rintro en z5 ⟨rfl, hb9⟩
    have hHeld' := hHeld.trans (hb9.mono hHeld.size)
    refine hK.out _ _ hHeld' (fun hHeld => ?_)
    clear hK K hHeld' hb9
    try simp only [Act.put, List.getElem_toArray, List.getElem_cons_succ, List.getElem_cons_zero, List.setIfInBounds_toArray, List.set_cons_succ, List.set_cons_zero]
    refine wpAnyH_ready (rs := [36]) (by kernel_rfl) (by simp) ?_
    refine AllReadyH.cons (o := _) rfl (fun K hK => ?_) AllReadyH.nil
    go_simp
    refine (HRS.out _).mono ?_
    rintro en z6 ⟨rfl, hb9⟩
    have hHeld' := hHeld.trans (hb9.mono hHeld.size)
    refine hK.out _ _ hHeld' (fun hHeld => ?_)
    clear hK K hHeld' hb9
    try simp only [Act.put, List.getElem_toArray, List.getElem_cons_succ, List.getElem_cons_zero, List.setIfInBounds_toArray, List.set_cons_succ, List.set_cons_zero]
    refine wpAnyH_take (i := 37) (oi := _) (v := .bool false) rfl (by kernel_rfl) (by kernel_rfl) (by kernel_rfl) (fun _ _ _ h => h) (Or.inl ⟨by rfl, fun w' hSw => by go_simp⟩) hHeld ?_
    try simp only [Act.put, List.getElem_toArray, List.getElem_cons_succ, List.getElem_cons_zero, List.setIfInBounds_toArray, List.set_cons_succ, List.set_cons_zero]
    refine wpAnyH_take (i := 38) (oi := _) (v := .bool false) rfl (by kernel_rfl) (by kernel_rfl) (by kernel_rfl) (fun _ _ _ h => h) (Or.inl ⟨by rfl, fun w' hSw => by go_simp⟩) hHeld ?_
    try simp only [Act.put, List.getElem_toArray, List.getElem_cons_succ, List.getElem_cons_zero, List.setIfInBounds_toArray, List.set_cons_succ, List.set_cons_zero]
    refine wpAnyH_done (by kernel_rfl) ?_ _
    have K9 := K0.keep hHeld
    have b9 := b3.trans (hHeld.mono b3.size)
    clear K0 b3 hHeld HR HRR HA HRA HS HRS HT HRT
    simp only [Exit.then]
    go_wp2_with fail
    go_ret
    exact ⟨rfl, b9⟩
  · rw [hr] at hT hRT hR hRR
    have hps : parseL (text o) = some o := parse_text hF hr
    have hlen := text_len hF
    obtain ⟨tx, htx⟩ : ∃ q, q = text o := ⟨_, rfl⟩
    rw [← htx] at hps hlen hT hRT
    have hne : tx.isEmpty = false := by rw [htx]; exact isEmpty_ne (text_ne hr)
    clear htx
    simp only [if_true] at hT hRT
    have HPS := Lib.hid hps
    clear hps
    have HT := Lib.hid hT
    have HRT := Lib.hid hRT
    have HR := Lib.hid hR
    have HRR := Lib.hid hRR
    clear hT hRT hR hRR hr
    go_enter Tryd.func3, Tryd.ntmps3
    go_wp2_with fail
    refine HAW.out.mono ?_
    rintro e w1 ⟨rfl, hb1⟩
    rw [← HW0.out] at hb1
    have K1 := K0.keep hb1
    have b1 := hb0.trans (hb1.mono hb0.size)
    clear K0 hb0 hb1 HAW HW0
    go_wp2_with (refine wpList_load_row rfl 24 _ rfl w.heap.size rfl _ (opC o) (0, 0) _ (by exact K1) Tryd.underlying24 rfl (by kernel_rfl) ?_)
    refine (HT.out _ (HL.out.keep b1)).mono ?_
    rintro e w2 ⟨rfl, hb2⟩
    have K2 := K1.keep hb2
    have b2 := b1.trans (hb2.mono b1.size)
    clear K1 b1 hb2
    go_wp2_with (refine wpList_load_row rfl 24 _ rfl w.heap.size rfl _ (opC o) (0, 0) _ (by exact K2) Tryd.underlying24 rfl (by kernel_rfl) ?_)
    refine (HRT.out _).mono ?_
    rintro e w3 ⟨rfl, hb3⟩
    have K0 := K2.keep hb3
    have b3 := b2.trans (hb3.mono b2.size)
    clear K2 b2 hb3
    go_upto_region 5 with fail
    have hS0 : Below w3.heap.size w3 w3.drew := Below.drew (Below.refl _ _)
    refine wp_region_held_drew (S := fun w' => Below w3.heap.size w3 w') (by kernel_rfl) hS0 (fun hHeld => ?_)
    clear hS0
    generalize w3.drew = z0 at *
    refine wpAnyH_take (i := 0) (oi := _) (v := .agg (opC o)) rfl (by kernel_rfl) (by kernel_rfl) (by kernel_rfl) (fun _ _ _ h => h) (yields_rowW rfl 24 _ rfl (w.heap.size) rfl (opC o) 24 _ (fun w' hw' => Bk.keep K0 hw') Tryd.underlying24 rfl (by kernel_rfl)) hHeld ?_
    try simp only [Act.put, List.getElem_toArray, List.getElem_cons_succ, List.getElem_cons_zero, List.setIfInBounds_toArray, List.set_cons_succ, List.set_cons_zero]
    refine wpAnyH_take (i := 2) (oi := _) (v := .agg (opC o)) rfl (by kernel_rfl) (by kernel_rfl) (by kernel_rfl) (fun _ _ _ h => h) (yields_rowW rfl 24 _ rfl (w.heap.size) rfl (opC o) 24 _ (fun w' hw' => Bk.keep K0 hw') Tryd.underlying24 rfl (by kernel_rfl)) hHeld ?_
    try simp only [Act.put, List.getElem_toArray, List.getElem_cons_succ, List.getElem_cons_zero, List.setIfInBounds_toArray, List.set_cons_succ, List.set_cons_zero]
    refine wpAnyH_ready (rs := [1]) (by kernel_rfl) (by simp) ?_
    refine AllReadyH.cons (o := _) rfl (fun K hK => ?_) AllReadyH.nil
    go_simp
    refine (HR.out _).mono ?_
    rintro en z1 ⟨rfl, hb9⟩
    have hHeld' := hHeld.trans (hb9.mono hHeld.size)
    refine hK.out _ _ hHeld' (fun hHeld => ?_)
    clear hK K hHeld' hb9
    try simp only [Act.put, List.getElem_toArray, List.getElem_cons_succ, List.getElem_cons_zero, List.setIfInBounds_toArray, List.set_cons_succ, List.set_cons_zero]
    refine wpAnyH_ready (rs := [3]) (by kernel_rfl) (by simp) ?_
    refine AllReadyH.cons (o := _) rfl (fun K hK => ?_) AllReadyH.nil
    go_simp
    refine (HRR.out _).mono ?_
    rintro en z2 ⟨rfl, hb9⟩
    have hHeld' := hHeld.trans (hb9.mono hHeld.size)
    refine hK.out _ _ hHeld' (fun hHeld => ?_)
    clear hK K hHeld' hb9
    try simp only [Act.put, List.getElem_toArray, List.getElem_cons_succ, List.getElem_cons_zero, List.setIfInBounds_toArray, List.set_cons_succ, List.set_cons_zero]
    refine wpAnyH_take (i := 4) (oi := _) (v := .bool false) rfl (by kernel_rfl) (by kernel_rfl) (by kernel_rfl) (fun _ _ _ h => h) (Or.inl ⟨by rfl, fun w' hSw => by go_simp⟩) hHeld ?_
    try simp only [Act.put, List.getElem_toArray, List.getElem_cons_succ, List.getElem_cons_zero, List.setIfInBounds_toArray, List.set_cons_succ, List.set_cons_zero]
    refine wpAnyH_take (i := 5) (oi := _) (v := .bool false) rfl (by kernel_rfl) (by kernel_rfl) (by kernel_rfl) (fun _ _ _ h => h) (Or.inl ⟨by rfl, fun w' hSw => by go_simp⟩) hHeld ?_
    try simp only [Act.put, List.getElem_toArray, List.getElem_cons_succ, List.getElem_cons_zero, List.setIfInBounds_toArray, List.set_cons_succ, List.set_cons_zero]
    refine wpAnyH_take (i := 6) (oi := _) (v := strV tx) rfl (by kernel_rfl) (by kernel_rfl) (by kernel_rfl) (fun _ _ _ h => h) (Or.inl ⟨by rfl, fun w' hSw => by go_simp⟩) hHeld ?_
    try simp only [Act.put, List.getElem_toArray, List.getElem_cons_succ, List.getElem_cons_zero, List.setIfInBounds_toArray, List.set_cons_succ, List.set_cons_zero]
    refine wpAnyH_take (i := 7) (oi := _) (v := strV tx) rfl (by kernel_rfl) (by kernel_rfl) (by kernel_rfl) (fun _ _ _ h => h) (Or.inl ⟨by rfl, fun w' hSw => by go_simp⟩) hHeld ?_
    try simp only [Act.put, List.getElem_toArray, List.getElem_cons_succ, List.getElem_cons_zero, List.setIfInBounds_toArray, List.set_cons_succ, List.set_cons_zero]
    refine wpAnyH_take (i := 8) (oi := _) (v := .bool false) rfl (by kernel_rfl) (by kernel_rfl) (by kernel_rfl) (fun _ _ _ h => h) (Or.inl ⟨by rfl, fun w' hSw => by go_simp⟩) hHeld ?_
    try simp only [Act.put, List.getElem_toArray, List.getElem_cons_succ, List.getElem_cons_zero, List.setIfInBounds_toArray, List.set_cons_succ, List.set_cons_zero]
    refine wpAnyH_take (i := 9) (oi := _) (v := .bool false) rfl (by kernel_rfl) (by kernel_rfl) (by kernel_rfl) (fun _ _ _ h => h) (Or.inl ⟨by rfl, fun w' hSw => by go_simp⟩) hHeld ?_
    try simp only [Act.put, List.getElem_toArray, List.getElem_cons_succ, List.getElem_cons_zero, List.setIfInBounds_toArray, List.set_cons_succ, List.set_cons_zero]
    refine wpAnyH_take (i := 10) (oi := _) (v := .bool false) rfl (by kernel_rfl) (by kernel_rfl) (by kernel_rfl) (fun _ _ _ h => h) (Or.inl ⟨by rfl, fun w' hSw => by go_simp⟩) hHeld ?_
    try simp only [Act.put, List.getElem_toArray, List.getElem_cons_succ, List.getElem_cons_zero, List.setIfInBounds_toArray, List.set_cons_succ, List.set_cons_zero]
    refine wpAnyH_take (i := 11) (oi := _) (v := .int .i64 0) rfl (by kernel_rfl) (by kernel_rfl) (by kernel_rfl) (fun _ _ _ h => h) (Or.inl ⟨by rfl, fun w' hSw => by go_simp⟩) hHeld ?_
    try simp only [Act.put, List.getElem_toArray, List.getElem_cons_succ, List.getElem_cons_zero, List.setIfInBounds_toArray, List.set_cons_succ, List.set_cons_zero]
    refine wpAnyH_take (i := 12) (oi := _) (v := .bool true) rfl (by kernel_rfl) (by kernel_rfl) (by kernel_rfl) (fun _ _ _ h => h) (Or.inl ⟨by rfl, fun w' hSw => by go_simp⟩) hHeld ?_
    try simp only [Act.put, List.getElem_toArray, List.getElem_cons_succ, List.getElem_cons_zero, List.setIfInBounds_toArray, List.set_cons_succ, List.set_cons_zero]
    refine wpAnyH_take (i := 13) (oi := _) (v := strV tx) rfl (by kernel_rfl) (by kernel_rfl) (by kernel_rfl) (fun _ _ _ h => h) (Or.inl ⟨by rfl, fun w' hSw => by go_simp⟩) hHeld ?_
    try simp only [Act.put, List.getElem_toArray, List.getElem_cons_succ, List.getElem_cons_zero, List.setIfInBounds_toArray, List.set_cons_succ, List.set_cons_zero]
    refine wpAnyH_take (i := 14) (oi := _) (v := .bool true) rfl (by kernel_rfl) (by kernel_rfl) (by kernel_rfl) (fun _ _ _ h => h) (Or.inl ⟨by rfl, fun w' hSw => by go_simp⟩) hHeld ?_
    try simp only [Act.put, List.getElem_toArray, List.getElem_cons_succ, List.getElem_cons_zero, List.setIfInBounds_toArray, List.set_cons_succ, List.set_cons_zero]
    refine wpAnyH_take (i := 15) (oi := _) (v := .bool false) rfl (by kernel_rfl) (by kernel_rfl) (by kernel_rfl) (fun _ _ _ h => h) (Or.inl ⟨by rfl, fun w' hSw => by go_simp⟩) hHeld ?_
    try simp only [Act.put, List.getElem_toArray, List.getElem_cons_succ, List.getElem_cons_zero, List.setIfInBounds_toArray, List.set_cons_succ, List.set_cons_zero]
    refine wpAnyH_take (i := 16) (oi := _) (v := .bool false) rfl (by kernel_rfl) (by kernel_rfl) (by kernel_rfl) (fun _ _ _ h => h) (Or.inl ⟨by rfl, fun w' hSw => by go_simp⟩) hHeld ?_
    try simp only [Act.put, List.getElem_toArray, List.getElem_cons_succ, List.getElem_cons_zero, List.setIfInBounds_toArray, List.set_cons_succ, List.set_cons_zero]
    refine wpAnyH_take (i := 17) (oi := _) (v := .bool false) rfl (by kernel_rfl) (by kernel_rfl) (by kernel_rfl) (fun _ _ _ h => h) (Or.inl ⟨by rfl, fun w' hSw => by go_simp⟩) hHeld ?_
    try simp only [Act.put, List.getElem_toArray, List.getElem_cons_succ, List.getElem_cons_zero, List.setIfInBounds_toArray, List.set_cons_succ, List.set_cons_zero]
    refine wpAnyH_take (i := 18) (oi := _) (v := .int .i64 0) rfl (by kernel_rfl) (by kernel_rfl) (by kernel_rfl) (fun _ _ _ h => h) (Or.inl ⟨by rfl, fun w' hSw => by go_simp⟩) hHeld ?_
    try simp only [Act.put, List.getElem_toArray, List.getElem_cons_succ, List.getElem_cons_zero, List.setIfInBounds_toArray, List.set_cons_succ, List.set_cons_zero]
    refine wpAnyH_take (i := 19) (oi := _) (v := .bool false) rfl (by kernel_rfl) (by kernel_rfl) (by kernel_rfl) (fun _ _ _ h => h) (Or.inl ⟨by rfl, fun w' hSw => by go_simp⟩) hHeld ?_
    try simp only [Act.put, List.getElem_toArray, List.getElem_cons_succ, List.getElem_cons_zero, List.setIfInBounds_toArray, List.set_cons_succ, List.set_cons_zero]
    refine wpAnyH_take (i := 20) (oi := _) (v := .bool false) rfl (by kernel_rfl) (by kernel_rfl) (by kernel_rfl) (fun _ _ _ h => h) (Or.inl ⟨by rfl, fun w' hSw => by go_simp⟩) hHeld ?_
    try simp only [Act.put, List.getElem_toArray, List.getElem_cons_succ, List.getElem_cons_zero, List.setIfInBounds_toArray, List.set_cons_succ, List.set_cons_zero]
    refine wpAnyH_take (i := 21) (oi := _) (v := undef) rfl (by kernel_rfl) (by kernel_rfl) (by kernel_rfl) (fun _ _ _ h => h) (Or.inr ⟨by rfl, rfl⟩) hHeld ?_
    try simp only [Act.put, List.getElem_toArray, List.getElem_cons_succ, List.getElem_cons_zero, List.setIfInBounds_toArray, List.set_cons_succ, List.set_cons_zero]
    refine wpAnyH_take (i := 22) (oi := _) (v := undef) rfl (by kernel_rfl) (by kernel_rfl) (by kernel_rfl) (fun _ _ _ h => h) (Or.inr ⟨by rfl, rfl⟩) hHeld ?_
    try simp only [Act.put, List.getElem_toArray, List.getElem_cons_succ, List.getElem_cons_zero, List.setIfInBounds_toArray, List.set_cons_succ, List.set_cons_zero]
    refine wpAnyH_take (i := 23) (oi := _) (v := .bool false) rfl (by kernel_rfl) (by kernel_rfl) (by kernel_rfl) (fun _ _ _ h => h) (Or.inl ⟨by rfl, fun w' hSw => by go_simp⟩) hHeld ?_
    try simp only [Act.put, List.getElem_toArray, List.getElem_cons_succ, List.getElem_cons_zero, List.setIfInBounds_toArray, List.set_cons_succ, List.set_cons_zero]
    refine wpAnyH_take (i := 24) (oi := _) (v := .bool false) rfl (by kernel_rfl) (by kernel_rfl) (by kernel_rfl) (fun _ _ _ h => h) (Or.inl ⟨by rfl, fun w' hSw => by go_simp⟩) hHeld ?_
    try simp only [Act.put, List.getElem_toArray, List.getElem_cons_succ, List.getElem_cons_zero, List.setIfInBounds_toArray, List.set_cons_succ, List.set_cons_zero]
    refine wpAnyH_take (i := 25) (oi := _) (v := .bool false) rfl (by kernel_rfl) (by kernel_rfl) (by kernel_rfl) (fun _ _ _ h => h) (Or.inl ⟨by rfl, fun w' hSw => by go_simp⟩) hHeld ?_
    try simp only [Act.put, List.getElem_toArray, List.getElem_cons_succ, List.getElem_cons_zero, List.setIfInBounds_toArray, List.set_cons_succ, List.set_cons_zero]
    refine wpAnyH_take (i := 26) (oi := _) (v := .agg (opC o)) rfl (by kernel_rfl) (by kernel_rfl) (by kernel_rfl) (fun _ _ _ h => h) (yields_rowW rfl 24 _ rfl (w.heap.size) rfl (opC o) 24 _ (fun w' hw' => Bk.keep K0 hw') Tryd.underlying24 rfl (by kernel_rfl)) hHeld ?_
    try simp only [Act.put, List.getElem_toArray, List.getElem_cons_succ, List.getElem_cons_zero, List.setIfInBounds_toArray, List.set_cons_succ, List.set_cons_zero]
    refine wpAnyH_take (i := 28) (oi := _) (v := .agg (opC o)) rfl (by kernel_rfl) (by kernel_rfl) (by kernel_rfl) (fun _ _ _ h => h) (yields_rowW rfl 24 _ rfl (w.heap.size) rfl (opC o) 24 _ (fun w' hw' => Bk.keep K0 hw') Tryd.underlying24 rfl (by kernel_rfl)) hHeld ?_
    try simp only [Act.put, List.getElem_toArray, List.getElem_cons_succ, List.getElem_cons_zero, List.setIfInBounds_toArray, List.set_cons_succ, List.set_cons_zero]
    refine wpAnyH_ready (rs := [27]) (by kernel_rfl) (by simp) ?_
    refine AllReadyH.cons (o := _) rfl (fun K hK => ?_) AllReadyH.nil
    go_simp
    refine (HA.out _).mono ?_
    rintro en z3 ⟨rfl, hb9⟩
    have hHeld' := hHeld.trans (hb9.mono hHeld.size)
    refine hK.out _ _ hHeld' (fun hHeld => ?_)
    clear hK K hHeld' hb9
    try simp only [Act.put, List.getElem_toArray, List.getElem_cons_succ, List.getElem_cons_zero, List.setIfInBounds_toArray, List.set_cons_succ, List.set_cons_zero]
    refine wpAnyH_ready (rs := [29]) (by kernel_rfl) (by simp) ?_
    refine AllReadyH.cons (o := _) rfl (fun K hK => ?_) AllReadyH.nil
    go_simp
    refine (HRA.out _).mono ?_
    rintro en z4 ⟨rfl, hb9⟩
    have hHeld' := hHeld.trans (hb9.mono hHeld.size)
    refine hK.out _ _ hHeld' (fun hHeld => ?_)
    clear hK K hHeld' hb9
    try simp only [Act.put, List.getElem_toArray, List.getElem_cons_succ, List.getElem_cons_zero, List.setIfInBounds_toArray, List.set_cons_succ, List.set_cons_zero]
    refine wpAnyH_take (i := 30) (oi := _) (v := .bool false) rfl (by kernel_rfl) (by kernel_rfl) (by kernel_rfl) (fun _ _ _ h => h) (Or.inl ⟨by rfl, fun w' hSw => by go_simp⟩) hHeld ?_
    try simp only [Act.put, List.getElem_toArray, List.getElem_cons_succ, List.getElem_cons_zero, List.setIfInBounds_toArray, List.set_cons_succ, List.set_cons_zero]
    refine wpAnyH_take (i := 31) (oi := _) (v := .bool false) rfl (by kernel_rfl) (by kernel_rfl) (by kernel_rfl) (fun _ _ _ h => h) (Or.inl ⟨by rfl, fun w' hSw => by go_simp⟩) hHeld ?_
    try simp only [Act.put, List.getElem_toArray, List.getElem_cons_succ, List.getElem_cons_zero, List.setIfInBounds_toArray, List.set_cons_succ, List.set_cons_zero]
    refine wpAnyH_take (i := 32) (oi := _) (v := .bool false) rfl (by kernel_rfl) (by kernel_rfl) (by kernel_rfl) (fun _ _ _ h => h) (Or.inl ⟨by rfl, fun w' hSw => by go_simp⟩) hHeld ?_
    try simp only [Act.put, List.getElem_toArray, List.getElem_cons_succ, List.getElem_cons_zero, List.setIfInBounds_toArray, List.set_cons_succ, List.set_cons_zero]
    refine wpAnyH_take (i := 33) (oi := _) (v := .agg (opC o)) rfl (by kernel_rfl) (by kernel_rfl) (by kernel_rfl) (fun _ _ _ h => h) (yields_rowW rfl 24 _ rfl (w.heap.size) rfl (opC o) 24 _ (fun w' hw' => Bk.keep K0 hw') Tryd.underlying24 rfl (by kernel_rfl)) hHeld ?_
    try simp only [Act.put, List.getElem_toArray, List.getElem_cons_succ, List.getElem_cons_zero, List.setIfInBounds_toArray, List.set_cons_succ, List.set_cons_zero]
    refine wpAnyH_take (i := 35) (oi := _) (v := .agg (opC o)) rfl (by kernel_rfl) (by kernel_rfl) (by kernel_rfl) (fun _ _ _ h => h) (yields_rowW rfl 24 _ rfl (w.heap.size) rfl (opC o) 24 _ (fun w' hw' => Bk.keep K0 hw') Tryd.underlying24 rfl (by kernel_rfl)) hHeld ?_
    try simp only [Act.put, List.getElem_toArray, List.getElem_cons_succ, List.getElem_cons_zero, List.setIfInBounds_toArray, List.set_cons_succ, List.set_cons_zero]
    refine wpAnyH_ready (rs := [34]) (by kernel_rfl) (by simp) ?_
    refine AllReadyH.cons (o := _) rfl (fun K hK => ?_) AllReadyH.nil
    go_simp
    refine (HS.out _).mono ?_
    rintro en z5 ⟨rfl, hb9⟩
    have hHeld' := hHeld.trans (hb9.mono hHeld.size)
    refine hK.out _ _ hHeld' (fun hHeld => ?_)
    clear hK K hHeld' hb9
    try simp only [Act.put, List.getElem_toArray, List.getElem_cons_succ, List.getElem_cons_zero, List.setIfInBounds_toArray, List.set_cons_succ, List.set_cons_zero]
    refine wpAnyH_ready (rs := [36]) (by kernel_rfl) (by simp) ?_
    refine AllReadyH.cons (o := _) rfl (fun K hK => ?_) AllReadyH.nil
    go_simp
    refine (HRS.out _).mono ?_
    rintro en z6 ⟨rfl, hb9⟩
    have hHeld' := hHeld.trans (hb9.mono hHeld.size)
    refine hK.out _ _ hHeld' (fun hHeld => ?_)
    clear hK K hHeld' hb9
    try simp only [Act.put, List.getElem_toArray, List.getElem_cons_succ, List.getElem_cons_zero, List.setIfInBounds_toArray, List.set_cons_succ, List.set_cons_zero]
    refine wpAnyH_take (i := 37) (oi := _) (v := .bool false) rfl (by kernel_rfl) (by kernel_rfl) (by kernel_rfl) (fun _ _ _ h => h) (Or.inl ⟨by rfl, fun w' hSw => by go_simp⟩) hHeld ?_
    try simp only [Act.put, List.getElem_toArray, List.getElem_cons_succ, List.getElem_cons_zero, List.setIfInBounds_toArray, List.set_cons_succ, List.set_cons_zero]
    refine wpAnyH_take (i := 38) (oi := _) (v := .bool false) rfl (by kernel_rfl) (by kernel_rfl) (by kernel_rfl) (fun _ _ _ h => h) (Or.inl ⟨by rfl, fun w' hSw => by go_simp⟩) hHeld ?_
    try simp only [Act.put, List.getElem_toArray, List.getElem_cons_succ, List.getElem_cons_zero, List.setIfInBounds_toArray, List.set_cons_succ, List.set_cons_zero]
    refine wpAnyH_done (by kernel_rfl) ?_ _
    have K9 := K0.keep hHeld
    have b9 := b3.trans (hHeld.mono b3.size)
    clear K0 b3 hHeld HR HRR HA HRA HS HRS HT HRT
    simp only [Exit.then]
    go_wp2_with fail
    have hP := fParse tx (by omega) _ (HL.out.keep b9)
    unfold ParsePost at hP
    rw [HPS.out] at hP
    simp only [Option.getD_some, Option.isSome_some, if_true] at hP
    refine hP.mono ?_
    clear hP HPS
    rintro e wA ⟨rfl, hbA⟩
    have KA := K9.keep hbA
    have bA := b9.trans (hbA.mono b9.size)
    have sA := bA.size
    have lA := KA.lt
    have X2 := Bk.new wA (opC OpD.zero) 24
    obtain ⟨wB, hwB⟩ : ∃ q, q = (wA.alloc (.cells (opC OpD.zero) 24)).setRow wA.heap.size (opC o) := ⟨_, rfl⟩
    have X3 : Bk wB wA.heap.size (opC o) 24 := by rw [hwB]; exact X2.setRow _
    have bAB : Below wA.heap.size wA wB := by rw [hwB]; exact below_setRow ((Below.refl _ _).alloc (Nat.le_refl _) _) (Nat.le_refl _) _
    have KB := KA.keep bAB
    have bB := bA.trans (bAB.mono sA)
    clear K9 b9 hbA KA bA bAB
    go_wp2_with (first | ((refine wpList_store_row rfl 24 _ _ rfl wA.heap.size (opC o) rfl rfl _ _ (by exact X2) (by kernel_rfl) (by kernel_rfl) (by kernel_rfl) ?_); rw [← hwB]; clear hwB X2) | (refine wpList_load_row_w rfl 24 _ rfl wA.heap.size rfl _ (opC o) (0, 0) _ (by exact X3) Tryd.underlying24 rfl (by kernel_rfl) ?_) | (refine wpList_load_row_w rfl 24 _ rfl w.heap.size rfl _ (opC o) (0, 0) _ (by exact KB) Tryd.underlying24 rfl (by kernel_rfl) ?_))
    go_ret
    exact ⟨by simp, bB⟩
end Go.Proofs.YtononcokdlkjdaaDoor.Opw
