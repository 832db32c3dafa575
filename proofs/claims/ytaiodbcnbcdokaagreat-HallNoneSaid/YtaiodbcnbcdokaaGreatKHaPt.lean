/- Part HaPt. -/
import Derived.Test.YtaiodbcnbcdokaaGreatKHaFn
set_option linter.unusedVariables false
set_option linter.unusedSimpArgs false
set_option linter.unusedSectionVars false
set_option maxRecDepth 100000
set_option maxHeartbeats 16000000
namespace Go.Proofs.YtaiodbcnbcdokaaGreat.Ha
open Go Go.RowKit Go.ChangeMaps Gro Own Wd Ap Go.Proofs.YtaiodbcnbcdokaaGreat.Pl Wo Me Shp Opn
theorem hPoint (s t : Wk) (w : World) :
  Calls Tryz.prog 99 #[wv s, wv t] w fun e w' => e = .returned (.bool (isPt s.p t.p)) ∧ Below w.heap.size w w' := by
 have e0 : ∀ s : Wk, (wc s)[0]? = some (.int .i64 s.p.ln) := fun _ => rfl
 have e1 : ∀ s : Wk, (wc s)[1]? = some (.int .i64 s.p.o0) := fun _ => rfl
 have e8 : ∀ s : Wk, (wc s)[8]? = some (.bool s.p.pn) := fun _ => rfl
 have e28 : ∀ s : Wk, (wc s)[28]? = some (.int .i64 s.p.j) := fun _ => rfl
 have e31 : ∀ s : Wk, (wc s)[31]? = some (.int .i64 s.p.rt) := fun _ => rfl
 have X0 := (Bk.new w (wc s) 46).alloc (.cells (wc t) 46)
 have Y0 := Bk.new (w.alloc (.cells (wc s) 46)) (wc t) 46
 rw [World.size_alloc] at Y0
 have b0 : Below w.heap.size w ((w.alloc (.cells (wc s) 46)).alloc (.cells (wc t) 46)) := ((Below.refl _ _).alloc (Nat.le_refl _) _).alloc aF _
 obtain ⟨w1, hw1⟩ : ∃ u, u = (w.alloc (.cells (wc s) 46)).alloc (.cells (wc t) 46) := ⟨_, rfl⟩
 rw [← hw1] at X0 Y0 b0
 have x31 : w1.cell? ⟨w.heap.size, 31, none⟩ = some (.int .i64 s.p.rt) := (X0.cells 31).trans (e31 s)
 have x0 : w1.cell? ⟨w.heap.size, 0, none⟩ = some (.int .i64 s.p.ln) := (X0.cells 0).trans (e0 s)
 have x1 : w1.cell? ⟨w.heap.size, 1, none⟩ = some (.int .i64 s.p.o0) := (X0.cells 1).trans (e1 s)
 have x8 : w1.cell? ⟨w.heap.size, 8, none⟩ = some (.bool s.p.pn) := (X0.cells 8).trans (e8 s)
 have x28 : w1.cell? ⟨w.heap.size, 28, none⟩ = some (.int .i64 s.p.j) := (X0.cells 28).trans (e28 s)
 have y31 : w1.cell? ⟨w.heap.size + 1, 31, none⟩ = some (.int .i64 t.p.rt) := (Y0.cells 31).trans (e31 t)
 have y0 : w1.cell? ⟨w.heap.size + 1, 0, none⟩ = some (.int .i64 t.p.ln) := (Y0.cells 0).trans (e0 t)
 have y8 : w1.cell? ⟨w.heap.size + 1, 8, none⟩ = some (.bool t.p.pn) := (Y0.cells 8).trans (e8 t)
 obtain ⟨p, rk, l0, l1, l2, hl, rd⟩ := s
 obtain ⟨q, rk', l0', l1', l2', hl', rd'⟩ := t
 simp only at x31 x0 x1 x8 x28 y31 y0 y8 ⊢
 obtain ⟨rt, hrt⟩ : ∃ a, a = p.rt := ⟨_, rfl⟩
 obtain ⟨ln, hln⟩ : ∃ a, a = p.ln := ⟨_, rfl⟩
 obtain ⟨o0, ho0⟩ : ∃ a, a = p.o0 := ⟨_, rfl⟩
 obtain ⟨pn, hpn⟩ : ∃ a, a = p.pn := ⟨_, rfl⟩
 obtain ⟨jj, hjj⟩ : ∃ a, a = p.j := ⟨_, rfl⟩
 obtain ⟨rt', hrt'⟩ : ∃ a, a = q.rt := ⟨_, rfl⟩
 obtain ⟨ln', hln'⟩ : ∃ a, a = q.ln := ⟨_, rfl⟩
 obtain ⟨pn', hpn'⟩ : ∃ a, a = q.pn := ⟨_, rfl⟩
 have HV : RowKit.Hid (isPt p q = (if rt = 0 ∧ rt' ≠ 0 then true else if ln = 3 then pn' && !pn else if ln = 90 then decide (o0 = 2) else if ln = 60 then decide (ln' = 61) else if ln = 62 then decide (jj = 0) else if ln = 37 then decide (ln' = 0) else if ln = 43 ∨ ln = 45 then decide (ln' ≠ wrap64 (ln - 1)) else decide (ln = 41) || decide (ln = 73))) := Lib.hid (by unfold isPt; rw [hrt, hln, ho0, hpn, hjj, hrt', hln', hpn'])
 rw [← hrt] at x31
 rw [← hln] at x0
 rw [← ho0] at x1
 rw [← hpn] at x8
 rw [← hjj] at x28
 rw [← hrt'] at y31
 rw [← hln'] at y0
 rw [← hpn'] at y8
 have lx := X0.lt
 have ly := Y0.lt
 have HB := Lib.hid b0
 clear hrt hln ho0 hpn hjj hrt' hln' hpn' X0 Y0 b0 e0 e1 e8 e28 e31
 go_enter Tryz.func99, Tryz.ntmps99
 go_upto_region 1 with fail
 rw [← hw1]
 clear hw1
 by_cases hr : rt = 0 ∧ rt' ≠ 0
 ·have t1 : (rt == 0) = true := by simp [hr.1]
  have t2 : (rt' != 0) = true := by simp [hr.2]
  have HE := Lib.hid (HV.out.trans (if_pos hr))
  clear hr HV
  go_wp2
  go_ret
  exact ⟨Wd.gB HE.out.symm, HB.out⟩
 have HV2 := Lib.hid (HV.out.trans (if_neg hr))
 clear HV
 have t12 : (rt == 0) = false ∨ ((rt == 0) = true ∧ (rt' != 0) = false) := by
  by_cases h1 : rt = 0
  ·by_cases h2 : rt' = 0
   ·exact .inr ⟨by simp [h1], by simp [h2]⟩
   ·exact absurd ⟨h1, h2⟩ hr
  ·exact .inl qa6c
 clear hr
 rcases t12 with t1 | ⟨t1, t2⟩
 all_goals
  by_cases h3 : ln = 3
  ·have HE := Lib.hid (HV2.out.trans (if_pos h3))
   have q3 : (ln == 3) = true := qa5w
   clear HV2 h3
   cases pn <;> cases pn'
   all_goals
    go_wp2
    go_ret
    exact ⟨Wd.gB HE.out.symm, HB.out⟩
  by_cases h90 : ln = 90
  ·have HE := Lib.hid (HV2.out.trans ((if_neg h3).trans (if_pos h90)))
   have q90 : (ln == 90) = true := qa7d
   have q3 : (ln == 3) = false := qa5w
   clear HV2 h3 h90
   by_cases hv : o0 = 2
   ·have qv : (o0 == 2) = true := by simp [hv]
    exact qa1k
   ·have qv : (o0 == 2) = false := by simp [hv]
    exact qa1l
  by_cases h60 : ln = 60
  ·have HE := Lib.hid (HV2.out.trans ((if_neg h3).trans ((if_neg h90).trans (if_pos h60))))
   have q60 : (ln == 60) = true := by simp [h60]
   have q3 : (ln == 3) = false := qa5w
   have q90 : (ln == 90) = false := qa7d
   clear HV2 h3 h90 h60
   by_cases hv : ln' = 61
   ·have qv : (ln' == 61) = true := by simp [hv]
    exact qa1k
   ·have qv : (ln' == 61) = false := by simp [hv]
    exact qa1l
  by_cases h62 : ln = 62
  ·have HE := Lib.hid (HV2.out.trans ((if_neg h3).trans ((if_neg h90).trans ((if_neg h60).trans (if_pos h62)))))
   have q62 : (ln == 62) = true := by simp [h62]
   have q3 : (ln == 3) = false := qa5w
   have q90 : (ln == 90) = false := qa7d
   have q60 : (ln == 60) = false := by simp [h60]
   clear HV2 h3 h90 h60 h62
   by_cases hv : jj = 0
   ·have qv : (jj == 0) = true := by simp [hv]
    exact qa1k
   ·have qv : (jj == 0) = false := by simp [hv]
    exact qa1l
  by_cases h37 : ln = 37
  ·have HE := Lib.hid (HV2.out.trans ((if_neg h3).trans ((if_neg h90).trans ((if_neg h60).trans ((if_neg h62).trans (if_pos h37))))))
   have q37 : (ln == 37) = true := by simp [h37]
   have q3 : (ln == 3) = false := qa5w
   have q90 : (ln == 90) = false := qa7d
   have q60 : (ln == 60) = false := by simp [h60]
   have q62 : (ln == 62) = false := by simp [h62]
   clear HV2 h3 h90 h60 h62 h37
   by_cases hv : ln' = 0
   ·have qv : (ln' == 0) = true := by simp [hv]
    exact qa1k
   ·have qv : (ln' == 0) = false := by simp [hv]
    exact qa1l
  by_cases h4 : ln = 43 ∨ ln = 45
  ·have HE := Lib.hid (HV2.out.trans ((if_neg h3).trans ((if_neg h90).trans ((if_neg h60).trans ((if_neg h62).trans ((if_neg h37).trans (if_pos h4)))))))
   have q3 : (ln == 3) = false := qa5w
   have q90 : (ln == 90) = false := qa7d
   have q60 : (ln == 60) = false := by simp [h60]
   have q62 : (ln == 62) = false := by simp [h62]
   have q37 : (ln == 37) = false := by simp [h37]
   obtain ⟨lw, hlw⟩ : ∃ a, a = wrap64 (ln - 1) := ⟨_, rfl⟩
   have hw : IntKind.i64.wrap (ln - 1) = lw := (IntWalk.i64_left _).trans hlw.symm
   rw [← hlw] at HE
   clear HV2 hlw h3 h90 h60 h62 h37
   rcases h4 with h4 | h4
   have q43 : (ln == 43) = true := by simp [h4]
   have q45 : (ln == 45) = false := by simp [h4]
   rotate_left
   have q43 : (ln == 43) = false := by simp [h4]
   have q45 : (ln == 45) = true := by simp [h4]
   rotate_left
   all_goals
    clear h4
    by_cases hv : ln' = lw
    ·have qv : (ln' == lw) = true := by simp [hv]
     have HF := Lib.hid (HE.out.trans (decide_eq_false (fun q => q hv)))
     exact qa40
    ·have qv : (ln' == lw) = false := by simp [hv]
     exact qa1k
  have HE := Lib.hid (HV2.out.trans ((if_neg h3).trans ((if_neg h90).trans ((if_neg h60).trans ((if_neg h62).trans ((if_neg h37).trans (if_neg h4)))))))
  have q3 : (ln == 3) = false := qa5w
  have q90 : (ln == 90) = false := qa7d
  have q60 : (ln == 60) = false := by simp [h60]
  have q62 : (ln == 62) = false := by simp [h62]
  have q37 : (ln == 37) = false := by simp [h37]
  have q43 : (ln == 43) = false := bq
  have q45 : (ln == 45) = false := bq
  clear HV2 h4 h3 h90 h60 h62 h37
  by_cases h41 : ln = 41
  ·have q41 : (ln == 41) = true := by simp [h41]
   have HF := Lib.hid (HE.out.trans (by rw [h41]; rfl : _ = true))
   clear HE h41
   exact qa4b
  have q41 : (ln == 41) = false := by simp [h41]
  by_cases h73 : ln = 73
  ·have q73 : (ln == 73) = true := by simp [h73]
   have HF := Lib.hid (HE.out.trans (by rw [h73]; rfl : _ = true))
   clear HE h73 h41
   exact qa4b
  have q73 : (ln == 73) = false := by simp [h73]
  have HF := Lib.hid (HE.out.trans (by simp [h41, h73] : _ = false))
  clear HE h41 h73
  go_wp2
  go_ret
  exact ⟨Wd.gB HF.out.symm, HB.out⟩
end Go.Proofs.YtaiodbcnbcdokaaGreat.Ha
