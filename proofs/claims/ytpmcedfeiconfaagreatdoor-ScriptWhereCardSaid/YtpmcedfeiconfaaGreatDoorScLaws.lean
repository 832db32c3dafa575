/- Layer 21: the reference's Same (made by genscref.py). -/
import Derived.Test.YtpmcedfeiconfaaGreatDoorScSames
import Derived.Test.YtpmcedfeiconfaaGreatDoorScDo
import Derived.Deep.Cut
import Derived.Deep.CutRange
import Derived.Test.YtpmcedfeiconfaaGreatDoorOpRef
import Derived.Test.YtpmcedfeiconfaaGreatDoorPlans2
import Derived.Test.YtpmcedfeiconfaaGreatDoorScParse
import Derived.Test.YtpmcedfeiconfaaGreatDoorScTexts
import Derived.Test.YtpmcedfeiconfaaGreatDoorRows2
import Derived.Test.YtpmcedfeiconfaaGreatDoorScrs
import Derived.Test.YtpmcedfeiconfaaGreatDoorOprs
namespace Go.Proofs.YtpmcedfeiconfaaGreatDoor.Scw
open Go Go.RowKit Go.ChangeMaps Go.Proofs.YtpmcedfeiconfaaGreatDoor.Gro Go.Proofs.YtpmcedfeiconfaaGreatDoor.Own Go.Proofs.YtpmcedfeiconfaaGreatDoor.Mr Go.Proofs.YtpmcedfeiconfaaGreatDoor.Opn Go.Proofs.YtpmcedfeiconfaaGreatDoor.Opw Go.Proofs.YtpmcedfeiconfaaGreatDoor.Pl Go.Proofs.YtpmcedfeiconfaaGreatDoor.Scr Go.Proofs.YtpmcedfeiconfaaGreatDoor.Wd
set_option linter.unusedVariables false
set_option linter.unusedSimpArgs false
theorem neq_cfg (a b : Cfg) (w : World) : (binOp .neq 24 (.agg (cfgC a)) (.agg (cfgC b))).run Tryz.prog w = .ok (.bool (!decide (a = b))) w := by
  unfold cfgC
  rw [run_neq_struct, cfg_eq]
  go_simp
  by_cases h1 : a.ww = b.ww
  · by_cases h2 : a.sl = b.sl
    · by_cases h3 : a.bl = b.bl
      · by_cases h4 : a.wd = b.wd
        · by_cases h5 : a.en = b.en
          · by_cases h6 : a.rk = b.rk
            · by_cases h7 : a.bg = b.bg
              · by_cases h8 : a.la = b.la <;> simp [h1, h2, h3, h4, h5, h6, h7, h8]
              · simp [h1, h2, h3, h4, h5, h6, h7]
            · simp [h1, h2, h3, h4, h5, h6]
          · simp [h1, h2, h3, h4, h5]
        · simp [h1, h2, h3, h4]
      · simp [h1, h2, h3]
    · simp [h1, h2]
  · simp [h1]
theorem guardn_cfg (a b : Cfg) (x y : Operand) (w : World) : (eqGuard .neq 24 x y (.agg (cfgC a)) (.agg (cfgC b))).run Tryz.prog w = .ok () w := run_eqGuard_agg w .neq _ x y _ _ (by kernel_rfl)
theorem rs_mid {w : World} {g : Nat} {c : Cfg} {vp vk : Value} (B : Bk w g (sC c vp vk) 28) : w.rangeAt g 0 (cfgC c).toList := fun j v hv => by
  rw [Nat.zero_add, B.cells j]
  rcases j with _ | _ | _ | _ | _ | _ | _ | _ | j <;> first | exact hv | (simp [cfgC] at hv)
set_option maxRecDepth 100000 in
set_option maxHeartbeats 16000000 in
theorem rSame (ca cb : Cfg) (pa pb : List (List OpD)) (ka kb : List Int) (apa aka apb akb : Option Addr) (cpa cka cpb ckb : Nat) (w : World)
    (RPA : ReadsP w (.slice apa pa.length cpa) pa) (RKA : Wd.Reads w .i64 (.slice aka ka.length cka) ka) (RPB : ReadsP w (.slice apb pb.length cpb) pb) (RKB : Wd.Reads w .i64 (.slice akb kb.length ckb) kb) :
    Calls Tryz.prog 14 #[sV ca (.slice apa pa.length cpa) (.slice aka ka.length cka), sV cb (.slice apb pb.length cpb) (.slice akb kb.length ckb)] w fun e w' => e = .returned (.bool (sameS ⟨ca, pa, ka⟩ ⟨cb, pb, kb⟩)) ∧ Below w.heap.size w w' := by
  obtain ⟨w2, hw2⟩ : ∃ q, q = (w.alloc (.cells (sC ca (.slice apa pa.length cpa) (.slice aka ka.length cka)) 28)).alloc (.cells (sC cb (.slice apb pb.length cpb) (.slice akb kb.length ckb)) 28) := ⟨_, rfl⟩
  have X0 : Bk w2 w.heap.size (sC ca (.slice apa pa.length cpa) (.slice aka ka.length cka)) 28 := by rw [hw2]; exact (Bk.new w _ _).alloc _
  have Y0 : Bk w2 (w.heap.size + 1) (sC cb (.slice apb pb.length cpb) (.slice akb kb.length ckb)) 28 := by
    have := Bk.new (w.alloc (.cells (sC ca (.slice apa pa.length cpa) (.slice aka ka.length cka)) 28)) (sC cb (.slice apb pb.length cpb) (.slice akb kb.length ckb)) 28
    rw [World.size_alloc] at this
    rw [hw2]
    exact this
  have b2 : Below w.heap.size w w2 := by rw [hw2]; exact ((Below.refl _ _).alloc (Nat.le_refl _) _).alloc (by simp) _
  have hla := RPA.len
  have hlb := RPB.len
  have HRPA := Lib.hid (RPA.keep b2)
  have HRPB := Lib.hid (RPB.keep b2)
  have HKE : RowKit.Hid (∀ w0, Below w2.heap.size w2 w0 → Calls Tryz.prog 31 #[.slice aka ka.length cka, .slice akb kb.length ckb] w0 fun e w' => e = .returned (.bool (decide (ka = kb))) ∧ Below w0.heap.size w0 w') := Lib.hid (fun w0 hb => ints ((RKA.keep b2).keep hb) ((RKB.keep b2).keep hb))
  have HX := Lib.hid X0
  have HY := Lib.hid Y0
  have HB := Lib.hid b2
  have hcq := neq_cfg ca cb
  have hcg := guardn_cfg ca cb
  have MX := Lib.hid (rs_mid X0)
  have MY := Lib.hid (rs_mid Y0)
  clear RPA RPB RKA RKB b2
  go_enter Tryz.func14, Tryz.ntmps14
  go_upto_region 1 with fail
  rw [← hw2]
  clear hw2
  have x2 := X0.cells
  have y2 := Y0.cells
  have lx := X0.lt
  have ly := Y0.lt
  clear X0 Y0
  by_cases hc : ca = cb
  case neg =>
    have hcd : decide (ca = cb) = false := decide_eq_false hc
    rw [hcd] at hcq
    have HS : RowKit.Hid (sameS ⟨ca, pa, ka⟩ ⟨cb, pb, kb⟩ = false) := Lib.hid (by unfold sameS; simp [hcd])
    clear hc hcd
    go_wp2_with (first | (refine wpList_load_mid rfl 24 _ rfl w.heap.size 0 rfl (cfgC ca).toList _ (by exact MX.out) Tryz.underlying24 rfl (by kernel_rfl) ?_) | (refine wpList_load_mid rfl 24 _ rfl (w.heap.size + 1) 0 rfl (cfgC cb).toList _ (by exact MY.out) Tryz.underlying24 rfl (by kernel_rfl) ?_))
    go_ret
    exact ⟨Wd.ret_bool HS.out.symm, HB.out⟩
  have hcd : decide (ca = cb) = true := decide_eq_true hc
  rw [hcd] at hcq
  have HCD := Lib.hid hcd
  clear hc hcd
  obtain ⟨kk, hkk⟩ : ∃ q, q = decide (ka = kb) := ⟨_, rfl⟩
  rw [← hkk] at HKE
  have HS : RowKit.Hid (sameS ⟨ca, pa, ka⟩ ⟨cb, pb, kb⟩ = (decide (SameP pa pb) && kk)) := Lib.hid (by unfold sameS; simp only; rw [HCD.out, ← hkk]; simp)
  clear hkk
  have ARMS := True.intro
  go_wp2_with (first | (refine wpList_load_mid rfl 24 _ rfl w.heap.size 0 rfl (cfgC ca).toList _ (by exact MX.out) Tryz.underlying24 rfl (by kernel_rfl) ?_) | (refine wpList_load_mid rfl 24 _ rfl (w.heap.size + 1) 0 rfl (cfgC cb).toList _ (by exact MY.out) Tryz.underlying24 rfl (by kernel_rfl) ?_))
  refine (HKE.out _ (Below.refl _ _)).mono ?_
  rintro e w3 ⟨rfl, hb3⟩
  have X3 := HX.out.keep hb3
  have Y3 := HY.out.keep hb3
  have HB3 := Lib.hid (HB.out.trans (hb3.mono HB.out.size))
  have HRA3 := Lib.hid (HRPA.out.keep hb3)
  have HRB3 := Lib.hid (HRPB.out.keep hb3)
  have HX3 := Lib.hid X3
  have HY3 := Lib.hid Y3
  have x3 := X3.cells
  have y3 := Y3.cells
  have lx3 := X3.lt
  have ly3 := Y3.lt
  clear hb3 x2 y2 lx ly X3 Y3 hcq hcg
  cases kk with
  | false =>
    go_wp2_with fail
    go_ret
    exact ⟨Wd.ret_bool (by rw [HS.out, Bool.and_false]), HB3.out⟩
  | true =>
    obtain ⟨M, hM⟩ : ∃ M : Nat, M = max pa.length pb.length := ⟨_, rfl⟩
    have hMl : M ≤ 9223372036854775807 := by omega
    have HM := Lib.hid hM
    clear hM
    go_wp2_with fail
    clear x3 y3 lx3 ly3
    go_loopw [5] (fun i wr => ∃ n : Nat, n ≤ M ∧ i = .int .i64 (n : Int) ∧ RowKit.Hid (∀ j, j < n → pa.getD j [] = pb.getD j []) ∧ RowKit.Hid (Below w3.heap.size w3 wr)) (fun i _ => M - (intOf i).toNat)
    case atStart => exact ⟨0, Nat.zero_le _, rfl, Lib.hid (fun j h => by omega), Lib.hid (Below.refl _ _)⟩
    case round =>
      obtain ⟨n, hn, rfl, HA, HW⟩ := hrel
      obtain ⟨wo, hwo⟩ : ∃ q, q = wr := ⟨_, rfl⟩
      subst hwo
      have X4 := HX3.out.keep HW.out
      have Y4 := HY3.out.keep HW.out
      have x4 := X4.cells
      have y4 := Y4.cells
      have lx4 := X4.lt
      have ly4 := Y4.lt
      clear X4 Y4
      have HFALSE : RowKit.Hid (pa.getD n [] ≠ pb.getD n [] → sameS ⟨ca, pa, ka⟩ ⟨cb, pb, kb⟩ = false) := Lib.hid (fun h => by
        have : decide (SameP pa pb) = false := decide_eq_false (fun q => h (q n))
        rw [HS.out, this]; rfl)
      have HNEXT : RowKit.Hid (pa.getD n [] = pb.getD n [] → ∀ j, j < n + 1 → pa.getD j [] = pb.getD j []) := Lib.hid (fun h j hj => by
        rcases Nat.lt_succ_iff_lt_or_eq.1 hj with hj | rfl
        · exact HA.out j hj
        · exact h)
      by_cases h1 : n < pa.length
      · have ga : pa.getD n [] = pa[n] := by simp [List.getD_eq_getElem?_getD, h1]
        obtain ⟨_, _, he, _, _, hra⟩ := HRA3.out.keep HW.out
        injection he with he1 _ he2
        subst he1 he2
        rcases hra with hra | ⟨ba, oa, rfl, hba, hca⟩
        · rw [hra] at h1; cases h1
        obtain ⟨ua, hua, hra⟩ := hca n h1
        obtain ⟨qa, hqa⟩ : ∃ q, q = pa[n] := ⟨_, rfl⟩
        rw [← hqa] at hra ga
        obtain ⟨ada, cda, rfl, hda1, hda2, hra⟩ := hra
        have HRA := Lib.hid hra
        have HGA := Lib.hid ga
        clear hca hra hqa ga
        by_cases h2 : n < pb.length
        · have gb : pb.getD n [] = pb[n] := by simp [List.getD_eq_getElem?_getD, h2]
          obtain ⟨_, _, he, _, _, hrb⟩ := HRB3.out.keep HW.out
          injection he with he1 _ he2
          subst he1 he2
          rcases hrb with hrb | ⟨bb, ob, rfl, hbb, hcb⟩
          · rw [hrb] at h2; cases h2
          obtain ⟨ub, hub, hrb⟩ := hcb n h2
          obtain ⟨qb, hqb⟩ : ∃ q, q = pb[n] := ⟨_, rfl⟩
          rw [← hqb] at hrb gb
          obtain ⟨adb, cdb, rfl, hdb1, hdb2, hrb⟩ := hrb
          have HRB := Lib.hid hrb
          have HGB := Lib.hid gb
          have hm1 : qa.length ≤ 9223372036854775807 := by unfold maxLen at hda2; omega
          have hm2 : qb.length ≤ 9223372036854775807 := by unfold maxLen at hdb2; omega
          clear hcb hrb hqb gb
          by_cases hl : qa.length = qb.length
          · have hne : ((qa.length : Int) != (qb.length : Int)) = false := by simp [hl]
            have HL := Lib.hid hl
            clear hl
            go_wp2
            clear x4 y4
            go_loopw [8] (fun i wi => ∃ j : Nat, j ≤ qa.length ∧ i = .int .i64 (j : Int) ∧ RowKit.Hid (∀ t (h : t < j) (h1 : t < qa.length), qa[t] = qb[t]'(by have := HL.out; omega)) ∧ RowKit.Hid (Below wo.heap.size wo wi)) (fun i _ => qa.length - (intOf i).toNat)
            case atStart => exact ⟨0, Nat.zero_le _, rfl, Lib.hid (fun t h => by omega), Lib.hid (Below.refl _ _)⟩
            case round =>
              obtain ⟨j, hj, rfl, HJ, HV⟩ := hrel
              by_cases hlt : j < qa.length
              · have hlt2 : j < qb.length := by have := HL.out; omega
                have hcd9 : (j : Int) < (qb.length : Int) := by omega
                rcases HRA.out with hra | ⟨b1, o1, rfl, hb1, r1⟩
                · rw [hra] at hlt; cases hlt
                rcases HRB.out with hrb | ⟨b2, o2, rfl, hb2, r2⟩
                · rw [hrb] at hlt2; cases hlt2
                have q1 : ∀ w9, Below wr.heap.size wr w9 → w9.rangeAt b1 (o1 + j * 7) (opC qa[j]).toList := fun w9 hb t v hv => (hb.cell (p := ⟨b1, _, none⟩) (Nat.lt_of_lt_of_le hb1 HV.out.size)).trans ((HV.out.cell (p := ⟨b1, _, none⟩) hb1).trans (r1 j hlt t v hv))
                have q2 : ∀ w9, Below wr.heap.size wr w9 → w9.rangeAt b2 (o2 + j * 7) (opC qb[j]).toList := fun w9 hb t v hv => (hb.cell (p := ⟨b2, _, none⟩) (Nat.lt_of_lt_of_le hb2 HV.out.size)).trans ((HV.out.cell (p := ⟨b2, _, none⟩) hb2).trans (r2 j hlt2 t v hv))
                have hnq := neq_ops qa[j] qb[j]
                have hgq := guard_ops qa[j] qb[j]
                obtain ⟨x, hx⟩ : ∃ x, x = decide (qa[j] = qb[j]) := ⟨_, rfl⟩
                rw [← hx] at hnq
                clear r1 r2 hb1 hb2
                cases x with
                | true =>
                  have HXX : RowKit.Hid (qa[j] = qb[j]) := Lib.hid (of_decide_eq_true hx.symm)
                  clear hx
                  go_wp2
                  refine wp_region_grown (by kernel_rfl) (by kernel_rfl) ?_
                  repeat (first | (refine wpQuiet_load_mid rfl 50 _ rfl b1 (o1 + j * 7) rfl (opC qa[j]).toList _ (by rintro _ ⟨n, rfl⟩; exact q1 n.1 n.2) Tryz.underlying50 rfl (by kernel_rfl) ?_; simp only [Act.put, List.setIfInBounds_toArray, List.set_cons_succ, List.set_cons_zero]) | (refine wpQuiet_load_mid rfl 50 _ rfl b2 (o2 + j * 7) rfl (opC qb[j]).toList _ (by rintro _ ⟨n, rfl⟩; exact q2 n.1 n.2) Tryz.underlying50 rfl (by kernel_rfl) ?_; simp only [Act.put, List.setIfInBounds_toArray, List.set_cons_succ, List.set_cons_zero]) | go_big_quiet_step (fail))
                  refine wpQuiet_nil ?_
                  rintro w4 ⟨⟨_, hb4⟩, rfl⟩
                  have HV2 := Lib.hid (HV.out.trans (hb4.mono HV.out.size))
                  clear hb4 q1 q2
                  go_wp2
                  go_roundw
                  case rel => exact ⟨j + 1, by omega, by go_num, Lib.hid (fun t h h1 => by rcases Nat.lt_succ_iff_lt_or_eq.1 h with h | rfl; exact HJ.out t h h1; exact HXX.out), HV2⟩
                  case measure => simp [intOf]; omega
                | false =>
                  have HS2 := Lib.hid (HFALSE.out (fun e => (of_decide_eq_false hx.symm) (by
                    have e2 : qa = qb := by rw [← HGA.out, ← HGB.out, e]
                    subst e2
                    rfl)))
                  clear hx
                  go_wp2
                  refine wp_region_grown (by kernel_rfl) (by kernel_rfl) ?_
                  repeat (first | (refine wpQuiet_load_mid rfl 50 _ rfl b1 (o1 + j * 7) rfl (opC qa[j]).toList _ (by rintro _ ⟨n, rfl⟩; exact q1 n.1 n.2) Tryz.underlying50 rfl (by kernel_rfl) ?_; simp only [Act.put, List.setIfInBounds_toArray, List.set_cons_succ, List.set_cons_zero]) | (refine wpQuiet_load_mid rfl 50 _ rfl b2 (o2 + j * 7) rfl (opC qb[j]).toList _ (by rintro _ ⟨n, rfl⟩; exact q2 n.1 n.2) Tryz.underlying50 rfl (by kernel_rfl) ?_; simp only [Act.put, List.setIfInBounds_toArray, List.set_cons_succ, List.set_cons_zero]) | go_big_quiet_step (fail))
                  refine wpQuiet_nil ?_
                  rintro w4 ⟨⟨_, hb4⟩, rfl⟩
                  have HV2 := Lib.hid (HV.out.trans (hb4.mono HV.out.size))
                  clear hb4 q1 q2
                  go_wp2
                  go_ret
                  exact ⟨Wd.ret_bool HS2.out.symm, HB3.out.trans ((HW.out.trans (HV2.out.mono HW.out.size)).mono HB3.out.size)⟩
              · obtain rfl : j = qa.length := by omega
                have HEQ : RowKit.Hid (pa.getD n [] = pb.getD n []) := Lib.hid (by rw [HGA.out, HGB.out]; exact List.ext_getElem HL.out fun i h1 _ => HJ.out i h1 h1)
                go_wp2
                go_roundw
                case rel => exact ⟨n + 1, by have := HM.out; omega, by go_num, Lib.hid (HNEXT.out HEQ.out), Lib.hid (HW.out.trans (HV.out.mono HW.out.size))⟩
                case measure => have := HM.out; simp [intOf]; omega
          · have hne : ((qa.length : Int) != (qb.length : Int)) = true := by simp; omega
            have HS2 := Lib.hid (HFALSE.out (fun e => hl (by rw [← HGA.out, ← HGB.out, e])))
            go_wp2
            go_ret
            exact ⟨Wd.ret_bool HS2.out.symm, HB3.out.trans (HW.out.mono HB3.out.size)⟩
        · have HN0 : RowKit.Hid (pb.getD n [] = []) := Lib.hid (by rw [List.getD_eq_getElem?_getD, List.getElem?_eq_none (by omega)]; rfl)
          have hm1 : qa.length ≤ 9223372036854775807 := by unfold maxLen at hda2; omega
          by_cases hq0 : qa = []
          · subst hq0
            have HEQ : RowKit.Hid (pa.getD n [] = pb.getD n []) := Lib.hid (by rw [HGA.out, HN0.out])
            go_wp2
            refine wp_loop_rounds 1 ?_
            rw [rounds_succ]
            go_wp2
            go_roundw
            case rel => exact ⟨n + 1, by have := HM.out; omega, by go_num, Lib.hid (HNEXT.out HEQ.out), HW⟩
            case measure => have := HM.out; simp [intOf]; omega
          · have hp0 := List.length_pos_iff.2 hq0
            have HS2 := Lib.hid (HFALSE.out (fun e => hq0 (by rw [← HGA.out, e, HN0.out])))
            have hne : ((qa.length : Int) != 0) = true := by simp; omega
            clear hq0
            go_wp2
            go_ret
            exact ⟨Wd.ret_bool HS2.out.symm, HB3.out.trans (HW.out.mono HB3.out.size)⟩
      · by_cases h2 : n < pb.length
        · have HN0 : RowKit.Hid (pa.getD n [] = []) := Lib.hid (by rw [List.getD_eq_getElem?_getD, List.getElem?_eq_none (by omega)]; rfl)
          have gb : pb.getD n [] = pb[n] := by simp [List.getD_eq_getElem?_getD, h2]
          obtain ⟨_, _, he, _, _, hrb⟩ := HRB3.out.keep HW.out
          injection he with he1 _ he2
          subst he1 he2
          rcases hrb with hrb | ⟨bb, ob, rfl, hbb, hcb⟩
          · rw [hrb] at h2; cases h2
          obtain ⟨ub, hub, hrb⟩ := hcb n h2
          obtain ⟨qb, hqb⟩ : ∃ q, q = pb[n] := ⟨_, rfl⟩
          rw [← hqb] at hrb gb
          obtain ⟨adb, cdb, rfl, hdb1, hdb2, hrb⟩ := hrb
          have HGB := Lib.hid gb
          have hm2 : qb.length ≤ 9223372036854775807 := by unfold maxLen at hdb2; omega
          clear hcb hrb hqb gb
          by_cases hq0 : qb = []
          · subst hq0
            have HEQ : RowKit.Hid (pa.getD n [] = pb.getD n []) := Lib.hid (by rw [HGB.out, HN0.out])
            go_wp2
            refine wp_loop_rounds 1 ?_
            rw [rounds_succ]
            go_wp2
            go_roundw
            case rel => exact ⟨n + 1, by have := HM.out; omega, by go_num, Lib.hid (HNEXT.out HEQ.out), HW⟩
            case measure => have := HM.out; simp [intOf]; omega
          · have hp0 := List.length_pos_iff.2 hq0
            have HS2 := Lib.hid (HFALSE.out (fun e => hq0 (by rw [← HGB.out, ← e, HN0.out])))
            have hne : ((0 : Int) != (qb.length : Int)) = true := by simp; omega
            clear hq0
            go_wp2
            go_ret
            exact ⟨Wd.ret_bool HS2.out.symm, HB3.out.trans (HW.out.mono HB3.out.size)⟩
        · have hnM : n = M := by have := HM.out; omega
          have HSS : RowKit.Hid (sameS ⟨ca, pa, ka⟩ ⟨cb, pb, kb⟩ = true) := Lib.hid (by
            have : decide (SameP pa pb) = true := decide_eq_true (fun i => by
              by_cases hi : i < n
              · exact HA.out i hi
              · have h1 : pa.length ≤ i := by omega
                have h2 : pb.length ≤ i := by omega
                simp [h1, h2])
            rw [HS.out, this]; rfl)
          clear hnM
          go_wp2
          go_ret
          exact ⟨Wd.ret_bool HSS.out.symm, HB3.out.trans (HW.out.mono HB3.out.size)⟩
end Go.Proofs.YtpmcedfeiconfaaGreatDoor.Scw

/- Layer 21: the reference's Right (made by genscref.py). -/
namespace Go.Proofs.YtpmcedfeiconfaaGreatDoor.Scw
open Go Go.RowKit Go.ChangeMaps Go.Proofs.YtpmcedfeiconfaaGreatDoor.Gro Go.Proofs.YtpmcedfeiconfaaGreatDoor.Own Go.Proofs.YtpmcedfeiconfaaGreatDoor.Mr Go.Proofs.YtpmcedfeiconfaaGreatDoor.Opn Go.Proofs.YtpmcedfeiconfaaGreatDoor.Opw Go.Proofs.YtpmcedfeiconfaaGreatDoor.Pl Go.Proofs.YtpmcedfeiconfaaGreatDoor.Scr Go.Proofs.YtpmcedfeiconfaaGreatDoor.Wd
set_option linter.unusedVariables false
set_option linter.unusedSimpArgs false
theorem right_no {s : ScD} {n : Nat} (hn : n < s.p.length) (h : ¬ ((s.p.getD n []).length ≤ 200 ∧ ¬ (n + 1 = s.p.length ∧ s.p.getD n [] = []) ∧ ∀ o ∈ s.p.getD n [], right o = true)) : rightS s = false := by
  cases hr : rightS s with
  | false => rfl
  | true =>
    obtain ⟨r1, r2, r3, r4, r5, r6⟩ := (right_iff _).1 hr
    have e : s.p.getD n [] = s.p[n] := by simp [List.getD_eq_getElem?_getD, hn]
    have h5 := r5 _ (List.getElem_mem hn)
    refine absurd ⟨by rw [e]; exact h5.1, fun q => ?_, by rw [e]; exact h5.2⟩ h
    have hl : s.p.getLast? = some s.p[n] := by
      have h0 : s.p ≠ [] := fun q => by rw [q] at hn; cases hn
      rw [List.getLast?_eq_some_getLast h0, List.getLast_eq_getElem]
      congr 1
      have h1 := q.1
      congr 1
      omega
    unfold lastOk at r4
    rw [hl] at r4
    have h2 := q.2
    rw [e] at h2
    rw [h2] at r4
    simp at r4
theorem right_yes {s : ScD} (h1 : okC s.c = true) (h2 : (s.p.length : Int) ≤ s.c.ww) (h3 : s.k.length ≤ 2000) (h : ∀ n, n < s.p.length → (s.p.getD n []).length ≤ 200 ∧ ¬ (n + 1 = s.p.length ∧ s.p.getD n [] = []) ∧ ∀ o ∈ s.p.getD n [], right o = true) : rightS s = inR s.c s.k := by
  have hl : lastOk s.p = true := by
    unfold lastOk
    cases hq : s.p.getLast? with
    | none => rfl
    | some l =>
      have h0 : s.p ≠ [] := fun q => by rw [q] at hq; cases hq
      have hpos := List.length_pos_iff.2 h0
      have hh := (h (s.p.length - 1) (by omega)).2.1
      have e : s.p.getD (s.p.length - 1) [] = l := by
        rw [List.getLast?_eq_some_getLast h0, List.getLast_eq_getElem] at hq
        injection hq with hq
        rw [← hq, List.getD_eq_getElem?_getD, List.getElem?_eq_getElem (by omega)]
        rfl
      rw [e] at hh
      cases l with
      | nil => exact absurd ⟨by omega, rfl⟩ hh
      | cons _ _ => rfl
  have hall : (s.p.all fun l => decide (l.length ≤ 200) && l.all right) = true := by
    rw [List.all_eq_true]
    intro l hlm
    obtain ⟨n, hn, rfl⟩ := List.mem_iff_getElem.1 hlm
    have hh := h n hn
    have e : s.p.getD n [] = s.p[n] := by simp [List.getD_eq_getElem?_getD, hn]
    rw [e] at hh
    simp only [Bool.and_eq_true, decide_eq_true_eq, List.all_eq_true]
    exact ⟨hh.1, hh.2.2⟩
  unfold rightS
  simp only [h1, h2, h3, hl, hall, decide_true, Bool.true_and]
set_option maxRecDepth 100000 in
set_option maxHeartbeats 16000000 in
theorem rRight (s : ScD) (W : s.c.Wf) (ap ak : Option Addr) (cp ck : Nat) (w : World) (RK : Reads w .i64 (.slice ak s.k.length ck) s.k) (RP : ReadsP w (.slice ap s.p.length cp) s.p) :
    Calls Tryz.prog 11 #[sV s.c (.slice ap s.p.length cp) (.slice ak s.k.length ck)] w fun e w' => e = .returned (.bool (rightS s)) ∧ Below w.heap.size w w' := by
  obtain ⟨w1, hw1⟩ : ∃ q, q = w.alloc (.cells (sC s.c (.slice ap s.p.length cp) (.slice ak s.k.length ck)) 28) := ⟨_, rfl⟩
  have X1 : Bk w1 w.heap.size (sC s.c (.slice ap s.p.length cp) (.slice ak s.k.length ck)) 28 := by rw [hw1]; exact Bk.new w _ _
  have b1 : Below w.heap.size w w1 := by rw [hw1]; exact (Below.refl _ _).alloc (Nat.le_refl _) _
  have HRK := Lib.hid RK
  have HRP := Lib.hid RP
  have hpl := RP.len
  have hkl : s.k.length ≤ 9223372036854775807 := by
    obtain ⟨_, _, he, h1, h2, _⟩ := RK
    unfold maxLen at h2
    omega
  have HC := Lib.hid (refCheck s.c W w1)
  have HX := Lib.hid X1
  have HB := Lib.hid b1
  have M1 := Lib.hid (rs_mid X1)
  obtain ⟨c, p, k⟩ := s
  simp only at *
  obtain ⟨np, hnp⟩ : ∃ q, q = p.length := ⟨_, rfl⟩
  obtain ⟨nk, hnk⟩ : ∃ q, q = k.length := ⟨_, rfl⟩
  have x1 := X1.cells
  have l1 := X1.lt
  clear RK RP b1 X1
  go_enter Tryz.func11, Tryz.ntmps11
  go_upto_region 1 with fail
  rw [← hw1]
  clear hw1
  go_wp2_with (first | (refine wpList_load_mid rfl 24 _ rfl w.heap.size 0 rfl (cfgC c).toList _ (by exact M1.out) Tryz.underlying24 rfl (by kernel_rfl) ?_))
  refine HC.out.mono ?_
  rintro e w2 ⟨rfl, hb2⟩
  have X2 := HX.out.keep hb2
  have HX2 := Lib.hid X2
  have HB2 := Lib.hid (HB.out.trans (hb2.mono HB.out.size))
  have x2 := X2.cells
  have l2 := X2.lt
  clear hb2 X2 x1 l1
  by_cases hc : chk c = 0
  case neg =>
    have hq : (chk c != 0) = true := by simp [hc]
    have HE : RowKit.Hid (rightS ⟨c, p, k⟩ = false) := Lib.hid (by unfold rightS okC; simp [hc])
    clear hc
    go_wp2_with fail
    go_ret
    exact ⟨Wd.ret_bool HE.out.symm, HB2.out⟩
  have hq : (chk c != 0) = false := by simp [hc]
  have hok : okC c = true := by unfold okC; simp [hc]
  have hww := ok_ww hok
  have HOK := Lib.hid hok
  clear hc hok
  by_cases hp : (p.length : Int) ≤ c.ww
  case neg =>
    have hp2 : c.ww < (p.length : Int) := by omega
    have HE : RowKit.Hid (rightS ⟨c, p, k⟩ = false) := Lib.hid (by unfold rightS; simp [hp])
    clear hp
    go_wp2_with fail
    go_ret
    exact ⟨Wd.ret_bool HE.out.symm, HB2.out⟩
  have hp2 : ¬ c.ww < (p.length : Int) := by omega
  by_cases hk : k.length ≤ 2000
  case neg =>
    have hk2 : 2000 < (k.length : Int) := by omega
    have HE : RowKit.Hid (rightS ⟨c, p, k⟩ = false) := Lib.hid (by unfold rightS; simp [hk])
    clear hk
    go_wp2_with fail
    go_ret
    exact ⟨Wd.ret_bool HE.out.symm, HB2.out⟩
  have hk2 : ¬ 2000 < (k.length : Int) := by omega
  have hpl8 : p.length ≤ 8 := by omega
  go_wp2_with fail
  clear x2 l2
  go_loopw [3] (fun i wr => ∃ n : Nat, n ≤ p.length ∧ i = .int .i64 (n : Int) ∧ RowKit.Hid (∀ j, j < n → (p.getD j []).length ≤ 200 ∧ ¬ (j + 1 = p.length ∧ p.getD j [] = []) ∧ ∀ o ∈ p.getD j [], right o = true) ∧ RowKit.Hid (Below w.heap.size w wr) ∧ RowKit.Hid (Bk wr w.heap.size (sC c (.slice ap p.length cp) (.slice ak k.length ck)) 28)) (fun i _ => p.length - (intOf i).toNat)
  case atStart => exact ⟨0, Nat.zero_le _, rfl, Lib.hid (fun j h => by omega), HB2, HX2⟩
  case round =>
    obtain ⟨n, hn, rfl, HA, HW, HV⟩ := hrel
    obtain ⟨wo, hwo⟩ : ∃ q, q = wr := ⟨_, rfl⟩
    subst hwo
    have x3 := HV.out.cells
    have l3 := HV.out.lt
    by_cases hlt : n < p.length
    · obtain ⟨_, _, he, _, _, hrp⟩ := HRP.out
      injection he with he1 _ he2
      subst he1 he2
      rcases hrp with hrp | ⟨b, off, rfl, hbl, hcell⟩
      · rw [hrp] at hlt; cases hlt
      obtain ⟨u, hu0, hu2⟩ := hcell n hlt
      have hu1 := (HW.out.cell (p := ⟨b, off + n, none⟩) hbl).trans hu0
      obtain ⟨q, hq9⟩ : ∃ q, q = p[n] := ⟨_, rfl⟩
      have hqd : p.getD n [] = q := by rw [hq9]; simp [List.getD_eq_getElem?_getD, hlt]
      rw [← hq9] at hu2
      obtain ⟨au, cu, rfl, hcu, hcm, hru⟩ := hu2
      have HRU := Lib.hid hru
      have HQD := Lib.hid hqd
      have hbl2 := Nat.lt_of_lt_of_le hbl HW.out.size
      have hqm : q.length ≤ 9223372036854775807 := by unfold maxLen at hcm; omega
      have HNO : RowKit.Hid (¬ (q.length ≤ 200 ∧ ¬ (n + 1 = p.length ∧ q = []) ∧ ∀ o ∈ q, right o = true) → rightS ⟨c, p, k⟩ = false) := Lib.hid (fun h => right_no (s := ⟨c, p, k⟩) hlt (by rw [hqd]; exact h))
      clear hcell hru hq9 hu0 hqd
      by_cases h200 : q.length ≤ 200
      case neg =>
        have h2 : 200 < (q.length : Int) := by omega
        have HE := Lib.hid (HNO.out (fun h => h200 h.1))
        clear h200
        go_wp2_with fail
        go_ret
        exact ⟨Wd.ret_bool HE.out.symm, HW.out⟩
      have h2 : ¬ 200 < (q.length : Int) := by omega
      have hsub : IntKind.i64.wrap ((p.length : Int) - 1) = (p.length : Int) - 1 := IntWalk.i64_in _ (by omega)
      by_cases hlast : n + 1 = p.length ∧ q = []
      · have HE := Lib.hid (HNO.out (fun h => h.2.1 hlast))
        obtain ⟨h3, h4⟩ := hlast
        subst h4
        have h5 : ((n : Int) == (p.length : Int) - 1) = true := by simp; omega
        clear h3
        go_wp2_with fail
        go_ret
        exact ⟨Wd.ret_bool HE.out.symm, HW.out⟩
      · have h6 : ((n : Int) == (p.length : Int) - 1) = false ∨ ((n : Int) == (p.length : Int) - 1) = true ∧ ((q.length : Int) == 0) = false := by
          by_cases h3 : n + 1 = p.length
          · right
            have : q ≠ [] := fun e => hlast ⟨h3, e⟩
            have := List.length_pos_iff.2 this
            exact ⟨by simp; omega, by simp; omega⟩
          · left; simp; omega
        have HLAST := Lib.hid hlast
        have HU1 := Lib.hid hu1
        have hsum : IntKind.i64.wrap ((n : Int) + 1) = (n : Int) + 1 := IntWalk.i64_in _ (by omega)
        clear hlast
        rcases h6 with h6 | ⟨h6, h7⟩
        · go_wp2_with fail
          clear x3 l3 hu1
          go_loopw [4] (fun i wi => ∃ j : Nat, j ≤ q.length ∧ i = .int .i64 (j : Int) ∧ RowKit.Hid (∀ t (h : t < j) (h1 : t < q.length), right q[t] = true) ∧ RowKit.Hid (Below w.heap.size w wi) ∧ RowKit.Hid (Bk wi w.heap.size (sC c (.slice (some ⟨b, off, none⟩) p.length cp) (.slice ak k.length ck)) 28) ∧ RowKit.Hid (wi.cell? ⟨b, off + n, none⟩ = some (.slice au q.length cu))) (fun i _ => q.length - (intOf i).toNat)
          case atStart => exact ⟨0, Nat.zero_le _, rfl, Lib.hid (fun t h => by omega), HW, HV, HU1⟩
          case round =>
            obtain ⟨j, hj, rfl, HJ, HU, HY, HZ⟩ := hrel
            have y3 := HY.out.cells
            have m3 := HY.out.lt
            have hz := HZ.out
            have hbl3 := Nat.lt_of_lt_of_le hbl HU.out.size
            by_cases hltj : j < q.length
            · rcases HRU.out with hru | ⟨bu, ou, rfl, hbu, hcu9⟩
              · rw [hru] at hltj; cases hltj
              have HRG : RowKit.Hid (wr.rangeAt bu (ou + j * 7) (opC q[j]).toList) := Lib.hid (fun t v hv => (HU.out.cell (p := ⟨bu, _, none⟩) hbu).trans (hcu9 j hltj t v hv))
              obtain ⟨o, ho⟩ : ∃ o, o = q[j] := ⟨_, rfl⟩
              rw [← ho] at HRG
              have HO := Lib.hid ho
              have HRO := Lib.hid (refRight o wr)
              obtain ⟨x, hx⟩ : ∃ x, x = right o := ⟨_, rfl⟩
              rw [← hx] at HRO
              have HXO := Lib.hid hx
              clear hcu9 ho hx
              cases x with
              | true =>
                go_wp2_with (first | (refine wpList_load_mid rfl 50 _ rfl bu (ou + j * 7) rfl (opC o).toList _ (by exact HRG.out) Tryz.underlying50 rfl (by kernel_rfl) ?_))
                refine HRO.out.mono ?_
                rintro e w4 ⟨rfl, hb4⟩
                have HU4 := Lib.hid (HU.out.trans (hb4.mono HU.out.size))
                have HY4 := Lib.hid (HY.out.keep hb4)
                have HZ4 : RowKit.Hid (w4.cell? ⟨b, off + n, none⟩ = some (.slice (some ⟨bu, ou, none⟩) q.length cu)) := Lib.hid ((hb4.cell (p := ⟨b, off + n, none⟩) hbl3).trans HZ.out)
                clear hb4
                go_wp2
                go_roundw
                case rel => exact ⟨j + 1, by omega, by go_num, Lib.hid (fun t h h1 => by rcases Nat.lt_succ_iff_lt_or_eq.1 h with h | rfl; exact HJ.out t h h1; rw [← HO.out]; exact HXO.out.symm), HU4, HY4, HZ4⟩
                case measure => simp [intOf]; omega
              | false =>
                have HE := Lib.hid (HNO.out (fun h => by
                  have := h.2.2 q[j] (List.getElem_mem hltj)
                  rw [← HO.out, ← HXO.out] at this
                  cases this))
                go_wp2_with (first | (refine wpList_load_mid rfl 50 _ rfl bu (ou + j * 7) rfl (opC o).toList _ (by exact HRG.out) Tryz.underlying50 rfl (by kernel_rfl) ?_))
                refine HRO.out.mono ?_
                rintro e w4 ⟨rfl, hb4⟩
                have HU4 := Lib.hid (HU.out.trans (hb4.mono HU.out.size))
                clear hb4
                go_wp2
                go_ret
                exact ⟨Wd.ret_bool HE.out.symm, HU4.out⟩
            · obtain rfl : j = q.length := by omega
              have HALL : RowKit.Hid (∀ t, t < n + 1 → (p.getD t []).length ≤ 200 ∧ ¬ (t + 1 = p.length ∧ p.getD t [] = []) ∧ ∀ o ∈ p.getD t [], right o = true) := Lib.hid (fun t ht => by
                rcases Nat.lt_succ_iff_lt_or_eq.1 ht with ht | rfl
                · exact HA.out t ht
                · rw [HQD.out]
                  refine ⟨by omega, HLAST.out, fun o ho => ?_⟩
                  obtain ⟨i, hi, rfl⟩ := List.mem_iff_getElem.1 ho
                  exact HJ.out i hi hi)
              go_wp2
              go_roundw
              case rel => exact ⟨n + 1, by omega, by go_num, HALL, HU, HY⟩
              case measure => simp [intOf]; omega
        · go_wp2_with fail
          clear x3 l3 hu1
          go_loopw [4] (fun i wi => ∃ j : Nat, j ≤ q.length ∧ i = .int .i64 (j : Int) ∧ RowKit.Hid (∀ t (h : t < j) (h1 : t < q.length), right q[t] = true) ∧ RowKit.Hid (Below w.heap.size w wi) ∧ RowKit.Hid (Bk wi w.heap.size (sC c (.slice (some ⟨b, off, none⟩) p.length cp) (.slice ak k.length ck)) 28) ∧ RowKit.Hid (wi.cell? ⟨b, off + n, none⟩ = some (.slice au q.length cu))) (fun i _ => q.length - (intOf i).toNat)
          case atStart => exact ⟨0, Nat.zero_le _, rfl, Lib.hid (fun t h => by omega), HW, HV, HU1⟩
          case round =>
            obtain ⟨j, hj, rfl, HJ, HU, HY, HZ⟩ := hrel
            have y3 := HY.out.cells
            have m3 := HY.out.lt
            have hz := HZ.out
            have hbl3 := Nat.lt_of_lt_of_le hbl HU.out.size
            by_cases hltj : j < q.length
            · rcases HRU.out with hru | ⟨bu, ou, rfl, hbu, hcu9⟩
              · rw [hru] at hltj; cases hltj
              have HRG : RowKit.Hid (wr.rangeAt bu (ou + j * 7) (opC q[j]).toList) := Lib.hid (fun t v hv => (HU.out.cell (p := ⟨bu, _, none⟩) hbu).trans (hcu9 j hltj t v hv))
              obtain ⟨o, ho⟩ : ∃ o, o = q[j] := ⟨_, rfl⟩
              rw [← ho] at HRG
              have HO := Lib.hid ho
              have HRO := Lib.hid (refRight o wr)
              obtain ⟨x, hx⟩ : ∃ x, x = right o := ⟨_, rfl⟩
              rw [← hx] at HRO
              have HXO := Lib.hid hx
              clear hcu9 ho hx
              cases x with
              | true =>
                go_wp2_with (first | (refine wpList_load_mid rfl 50 _ rfl bu (ou + j * 7) rfl (opC o).toList _ (by exact HRG.out) Tryz.underlying50 rfl (by kernel_rfl) ?_))
                refine HRO.out.mono ?_
                rintro e w4 ⟨rfl, hb4⟩
                have HU4 := Lib.hid (HU.out.trans (hb4.mono HU.out.size))
                have HY4 := Lib.hid (HY.out.keep hb4)
                have HZ4 : RowKit.Hid (w4.cell? ⟨b, off + n, none⟩ = some (.slice (some ⟨bu, ou, none⟩) q.length cu)) := Lib.hid ((hb4.cell (p := ⟨b, off + n, none⟩) hbl3).trans HZ.out)
                clear hb4
                go_wp2
                go_roundw
                case rel => exact ⟨j + 1, by omega, by go_num, Lib.hid (fun t h h1 => by rcases Nat.lt_succ_iff_lt_or_eq.1 h with h | rfl; exact HJ.out t h h1; rw [← HO.out]; exact HXO.out.symm), HU4, HY4, HZ4⟩
                case measure => simp [intOf]; omega
              | false =>
                have HE := Lib.hid (HNO.out (fun h => by
                  have := h.2.2 q[j] (List.getElem_mem hltj)
                  rw [← HO.out, ← HXO.out] at this
                  cases this))
                go_wp2_with (first | (refine wpList_load_mid rfl 50 _ rfl bu (ou + j * 7) rfl (opC o).toList _ (by exact HRG.out) Tryz.underlying50 rfl (by kernel_rfl) ?_))
                refine HRO.out.mono ?_
                rintro e w4 ⟨rfl, hb4⟩
                have HU4 := Lib.hid (HU.out.trans (hb4.mono HU.out.size))
                clear hb4
                go_wp2
                go_ret
                exact ⟨Wd.ret_bool HE.out.symm, HU4.out⟩
            · obtain rfl : j = q.length := by omega
              have HALL : RowKit.Hid (∀ t, t < n + 1 → (p.getD t []).length ≤ 200 ∧ ¬ (t + 1 = p.length ∧ p.getD t [] = []) ∧ ∀ o ∈ p.getD t [], right o = true) := Lib.hid (fun t ht => by
                rcases Nat.lt_succ_iff_lt_or_eq.1 ht with ht | rfl
                · exact HA.out t ht
                · rw [HQD.out]
                  refine ⟨by omega, HLAST.out, fun o ho => ?_⟩
                  obtain ⟨i, hi, rfl⟩ := List.mem_iff_getElem.1 ho
                  exact HJ.out i hi hi)
              go_wp2
              go_roundw
              case rel => exact ⟨n + 1, by omega, by go_num, HALL, HU, HY⟩
              case measure => simp [intOf]; omega
    · obtain rfl : n = p.length := by omega
      have HEQ : RowKit.Hid (rightS ⟨c, p, k⟩ = inR c k) := Lib.hid (right_yes (s := ⟨c, p, k⟩) HOK.out hp hk HA.out)
      go_wp2_with fail
      clear x3 l3
      go_loopw [5] (fun i wi => ∃ j : Nat, j ≤ k.length ∧ i = .int .i64 (j : Int) ∧ RowKit.Hid (∀ t (h : t < j) (h1 : t < k.length), 0 ≤ k[t] ∧ k[t] < c.ww) ∧ RowKit.Hid (Below w.heap.size w wi) ∧ RowKit.Hid (Bk wi w.heap.size (sC c (.slice ap p.length cp) (.slice ak k.length ck)) 28)) (fun i _ => k.length - (intOf i).toNat)
      case atStart => exact ⟨0, Nat.zero_le _, rfl, Lib.hid (fun t h => by omega), HW, HV⟩
      case round =>
        obtain ⟨j, hj, rfl, HJ, HU, HY⟩ := hrel
        have y3 := HY.out.cells
        have m3 := HY.out.lt
        by_cases hlt : j < k.length
        · obtain ⟨_, _, he, _, _, hr⟩ := HRK.out
          injection he with he1 _ he2
          subst he1 he2
          rcases hr with hr | ⟨bk, ok, rfl, hbk, hck⟩
          · rw [hr] at hlt; cases hlt
          have q1 : wr.cell? ⟨bk, ok + j, none⟩ = some (.int .i64 k[j]) := (HU.out.cell (p := ⟨bk, _, none⟩) hbk).trans (hck j hlt)
          have hbk2 := Nat.lt_of_lt_of_le hbk HU.out.size
          obtain ⟨x, hx⟩ : ∃ x, x = k[j] := ⟨_, rfl⟩
          rw [← hx] at q1
          have HXJ := Lib.hid hx
          clear hck hx
          by_cases h0 : x < 0
          · have HE : RowKit.Hid (rightS ⟨c, p, k⟩ = false) := Lib.hid (by
              rw [HEQ.out]
              cases hi : inR c k with
              | false => rfl
              | true =>
                have := List.all_eq_true.1 hi k[j] (List.getElem_mem hlt)
                rw [← HXJ.out] at this
                simp at this
                omega)
            have hd : decide (x < 0) = true := decide_eq_true h0
            go_wp2
            refine wp_region_grown (by kernel_rfl) (by kernel_rfl) ?_
            have hg := @gcell
            repeat (go_big_quiet_step (fail))
            refine wpQuiet_nil ?_
            rintro w4 ⟨⟨_, hb4⟩, rfl⟩
            have HU4 := Lib.hid (HU.out.trans (hb4.mono HU.out.size))
            clear hb4
            go_wp2
            go_ret
            exact ⟨Wd.ret_bool HE.out.symm, HU4.out⟩
          · have hd : decide (x < 0) = false := decide_eq_false h0
            by_cases h1 : c.ww ≤ x
            · have HE : RowKit.Hid (rightS ⟨c, p, k⟩ = false) := Lib.hid (by
                rw [HEQ.out]
                cases hi : inR c k with
                | false => rfl
                | true =>
                  have := List.all_eq_true.1 hi k[j] (List.getElem_mem hlt)
                  rw [← HXJ.out] at this
                  simp at this
                  omega)
              have hd1 : decide (c.ww ≤ x) = true := decide_eq_true h1
              go_wp2
              refine wp_region_grown (by kernel_rfl) (by kernel_rfl) ?_
              have hg := @gcell
              repeat (go_big_quiet_step (fail))
              refine wpQuiet_nil ?_
              rintro w4 ⟨⟨_, hb4⟩, rfl⟩
              have HU4 := Lib.hid (HU.out.trans (hb4.mono HU.out.size))
              clear hb4
              go_wp2
              go_ret
              exact ⟨Wd.ret_bool HE.out.symm, HU4.out⟩
            · have hd1 : decide (c.ww ≤ x) = false := decide_eq_false h1
              have HK1 : RowKit.Hid (0 ≤ x ∧ x < c.ww) := Lib.hid (by omega)
              go_wp2
              refine wp_region_grown (by kernel_rfl) (by kernel_rfl) ?_
              have hg := @gcell
              repeat (go_big_quiet_step (fail))
              refine wpQuiet_nil ?_
              rintro w4 ⟨⟨_, hb4⟩, rfl⟩
              have HU4 := Lib.hid (HU.out.trans (hb4.mono HU.out.size))
              have HY4 := Lib.hid (HY.out.keep hb4)
              clear hb4
              go_wp2
              go_roundw
              case rel => exact ⟨j + 1, by omega, by go_num, Lib.hid (fun t h h1 => by rcases Nat.lt_succ_iff_lt_or_eq.1 h with h | rfl; exact HJ.out t h h1; rw [← HXJ.out]; exact HK1.out), HU4, HY4⟩
              case measure => simp [intOf]; omega
        · obtain rfl : j = k.length := by omega
          have HE : RowKit.Hid (rightS ⟨c, p, k⟩ = true) := Lib.hid (by
            rw [HEQ.out]
            refine List.all_eq_true.2 fun x hx => ?_
            obtain ⟨t, ht, rfl⟩ := List.mem_iff_getElem.1 hx
            have := HJ.out t ht ht
            simp [this])
          go_wp2
          go_ret
          exact ⟨Wd.ret_bool HE.out.symm, HU.out⟩
end Go.Proofs.YtpmcedfeiconfaaGreatDoor.Scw

/- Layer 21: the laws' small functions: given, plain, great. -/
namespace Go.Proofs.YtpmcedfeiconfaaGreatDoor.Scw
open Go Go.RowKit Go.ChangeMaps Go.Proofs.YtpmcedfeiconfaaGreatDoor.Gro Go.Proofs.YtpmcedfeiconfaaGreatDoor.Own Go.Proofs.YtpmcedfeiconfaaGreatDoor.Mr Go.Proofs.YtpmcedfeiconfaaGreatDoor.Opn Go.Proofs.YtpmcedfeiconfaaGreatDoor.Opw Go.Proofs.YtpmcedfeiconfaaGreatDoor.Pl Go.Proofs.YtpmcedfeiconfaaGreatDoor.Scr Go.Proofs.YtpmcedfeiconfaaGreatDoor.Wd
set_option linter.unusedVariables false
set_option linter.unusedSimpArgs false
theorem build_given (c : Cfg) (a1 a2 : Option Addr) (n1 c1 n2 c2 : Nat) (w : World) : (Instr.build 34 #[(0, .agg (cfgC c)), (1, .slice a1 n1 c1), (2, .slice a2 n2 c2)]).run Tryz.prog w = .ok (sV c (.slice a1 n1 c1) (.slice a2 n2 c2)) w := run_build w _ _ _ (by kernel_rfl)
theorem build_plain (c : Cfg) (a1 a2 : Option Addr) (n1 c1 n2 c2 : Nat) (w : World) : (Instr.build 28 #[(0, .agg (cfgC c)), (1, .slice a1 n1 c1), (2, .slice a2 n2 c2)]).run Tryz.prog w = .ok (sV c (.slice a1 n1 c1) (.slice a2 n2 c2)) w := run_build w _ _ _ (by kernel_rfl)
theorem run_alloc_rsz (w : World) : (Instr.alloc 28 true (.tuple #[])).run Tryz.prog w = .ok (.pointer (some ⟨w.heap.size, 0, none⟩)) (w.alloc (.cells scZ 28)) := by kernel_rfl
theorem wpList_alloc_rsz {ops : Array Oper} {rest : List Oper} {o : Oper} {a : Act} {w : World} {Q : Exit → Act → World → Prop} (hg : o.guard = none) (ho : o.op = .alloc 28)
    (h : wpList Tryz.prog ops Q rest (a.put o.dst (.pointer (some ⟨w.heap.size, 0, none⟩))) (w.alloc (.cells scZ 28))) : wpList Tryz.prog ops Q (o :: rest) a w := by
  refine wpList_plain hg fun K hK => ?_
  unfold Oper.wp
  simp [execOp, ho, run_alloc_rsz, Result.andThen]
  exact hK _ _ h
theorem wpList_build3 {ops : Array Oper} {rest : List Oper} {o : Oper} {a : Act} {w : World} {Q : Exit → Act → World → Prop} (hg : o.guard = none) (ty : TypeId) (x y z : Operand) (ho : o.op = .build ty #[(0, x), (1, y), (2, z)]) (vx vy vz v : Value)
    (hr : (Instr.build ty #[(0, vx), (1, vy), (2, vz)]).run Tryz.prog w = .ok v w) (hx : a.eval x = vx) (hy : a.eval y = vy) (hz : a.eval z = vz) (h : wpList Tryz.prog ops Q rest (a.put o.dst v) w) : wpList Tryz.prog ops Q (o :: rest) a w := by
  subst hx hy hz
  refine wpList_plain hg fun K hK => ?_
  unfold Oper.wp execOp
  simp only [ho, Sem.run_bind, Sem.run_pure, Result.andThen_ok, List.map_toArray, List.map_cons, List.map_nil, hr]
  exact hK _ _ h
theorem results_cell1 {P : Program} {fn : Func} {p : Tmp} {ty : TypeId} (h : fn.results = #[.cell p ty]) (tmps : Array Value) (w : World) (g : Nat) (t : TypeId) (cs : Array Value) (fr : Nat × Nat) (d : TypeDesc)
    (hp : tmps.getD p undef = .pointer (some ⟨g, 0, none⟩)) (hg : w.heap[g]? = some (.cells cs t fr))
    (hu : P.underlying ty = some d) (hd : (match d with | .struct _ | .array _ _ => true | _ => false) = true) (hi : (P.info? ty).map (·.size) = some cs.size) :
    (results fn tmps).run P w = .ok (.agg cs) w := by
  have hp' : tmps[p]?.getD undef = .pointer (some ⟨g, 0, none⟩) := by simpa using hp
  simp [results, h, hp', asAddr, run_loadVar_row w g t ty cs fr d hg hu hd hi]
set_option maxRecDepth 100000 in
set_option maxHeartbeats 4000000 in
theorem fGiven (c : Cfg) (a1 a2 : Option Addr) (n1 c1 n2 c2 : Nat) (w : World) : Calls Tryz.prog 10 #[sV c (.slice a1 n1 c1) (.slice a2 n2 c2)] w fun e w' => e = .returned (sV c (.slice a1 n1 c1) (.slice a2 n2 c2)) ∧ Below w.heap.size w w' := by
  obtain ⟨w2, hw2⟩ : ∃ q, q = (w.alloc (.cells (sC c (.slice a1 n1 c1) (.slice a2 n2 c2)) 28)).alloc (.cells scZ 34) := ⟨_, rfl⟩
  have X0 : Bk w2 w.heap.size (sC c (.slice a1 n1 c1) (.slice a2 n2 c2)) 28 := by rw [hw2]; exact (Bk.new w _ _).alloc _
  have Y0 : Bk w2 (w.heap.size + 1) scZ 34 := by
    have := Bk.new (w.alloc (.cells (sC c (.slice a1 n1 c1) (.slice a2 n2 c2)) 28)) scZ 34
    rw [World.size_alloc] at this
    rw [hw2]
    exact this
  have b2 : Below w.heap.size w w2 := by rw [hw2]; exact ((Below.refl _ _).alloc (Nat.le_refl _) _).alloc (by simp) _
  have HBD := Lib.hid (build_given c a1 a2 n1 c1 n2 c2)
  have M := Lib.hid (rs_mid X0)
  have hcl : (cfgC c).toList.length = 8 := rfl
  obtain ⟨cs, hcs⟩ : ∃ q, q = cfgC c := ⟨_, rfl⟩
  rw [← hcs] at HBD M hcl
  have HCL := Lib.hid hcl
  clear hcs hcl
  have HB := Lib.hid b2
  have HY := Lib.hid Y0
  have Y1 := Y0.setRow (sC c (.slice a1 n1 c1) (.slice a2 n2 c2))
  have HY1 := Lib.hid Y1
  clear b2 Y0 Y1
  go_enter Tryz.func10, Tryz.ntmps10
  go_upto_region 1 with (first | (refine wpList_alloc_scz rfl rfl ?_))
  try simp only [Act.put, List.setIfInBounds_toArray, List.set_cons_succ, List.set_cons_zero]
  rw [← hw2]
  clear hw2
  have x0 := X0.cells
  have l0 := X0.lt
  clear X0
  go_wp2_with (first | (refine wpList_load_mid rfl 24 _ rfl w.heap.size 0 rfl cs.toList _ (by exact M.out) Tryz.underlying24 rfl (by rw [HCL.out]; kernel_rfl) ?_) | (with_reducible refine wpList_build3 rfl 34 _ _ _ rfl (.agg cs) (.slice a1 n1 c1) (.slice a2 n2 c2) (sV c (.slice a1 n1 c1) (.slice a2 n2 c2)) (HBD.out _) (by with_unfolding_all rfl) (by with_unfolding_all rfl) (by with_unfolding_all rfl) ?_) | (refine wpList_store_row rfl 34 _ _ rfl (w.heap.size + 1) (sC c (.slice a1 n1 c1) (.slice a2 n2 c2)) rfl rfl _ _ (by exact HY.out) (by kernel_rfl) (by kernel_rfl) (by kernel_rfl) ?_))
  refine bodyPost_ret (v := sV c (.slice a1 n1 c1) (.slice a2 n2 c2)) ?_ rfl ?_
  · exact results_cell1 (p := 2) (ty := 34) Tryz.results10 _ _ (w.heap.size + 1) 34 _ (0, 0) _ rfl HY1.out Tryz.underlying34 rfl (by kernel_rfl)
  · exact ⟨rfl, below_setRow HB.out (Nat.le_succ _) _⟩
set_option maxRecDepth 100000 in
set_option maxHeartbeats 4000000 in
theorem fPlain (c : Cfg) (a1 a2 : Option Addr) (n1 c1 n2 c2 : Nat) (w : World) : Calls Tryz.prog 17 #[sV c (.slice a1 n1 c1) (.slice a2 n2 c2)] w fun e w' => e = .returned (sV c (.slice a1 n1 c1) (.slice a2 n2 c2)) ∧ Below w.heap.size w w' := by
  obtain ⟨w2, hw2⟩ : ∃ q, q = (w.alloc (.cells (sC c (.slice a1 n1 c1) (.slice a2 n2 c2)) 34)).alloc (.cells scZ 28) := ⟨_, rfl⟩
  have X0 : Bk w2 w.heap.size (sC c (.slice a1 n1 c1) (.slice a2 n2 c2)) 34 := by rw [hw2]; exact (Bk.new w _ _).alloc _
  have Y0 : Bk w2 (w.heap.size + 1) scZ 28 := by
    have := Bk.new (w.alloc (.cells (sC c (.slice a1 n1 c1) (.slice a2 n2 c2)) 34)) scZ 28
    rw [World.size_alloc] at this
    rw [hw2]
    exact this
  have b2 : Below w.heap.size w w2 := by rw [hw2]; exact ((Below.refl _ _).alloc (Nat.le_refl _) _).alloc (by simp) _
  have HBD := Lib.hid (build_plain c a1 a2 n1 c1 n2 c2)
  have M := Lib.hid (sc_mid X0)
  have hcl : (cfgC c).toList.length = 8 := rfl
  obtain ⟨cs, hcs⟩ : ∃ q, q = cfgC c := ⟨_, rfl⟩
  rw [← hcs] at HBD M hcl
  have HCL := Lib.hid hcl
  clear hcs hcl
  have HB := Lib.hid b2
  have HY := Lib.hid Y0
  have Y1 := Y0.setRow (sC c (.slice a1 n1 c1) (.slice a2 n2 c2))
  have HY1 := Lib.hid Y1
  clear b2 Y0 Y1
  go_enter Tryz.func17, Tryz.ntmps17
  go_upto_region 1 with (first | (refine wpList_alloc_rsz rfl rfl ?_))
  try simp only [Act.put, List.setIfInBounds_toArray, List.set_cons_succ, List.set_cons_zero]
  rw [← hw2]
  clear hw2
  have x0 := X0.cells
  have l0 := X0.lt
  clear X0
  go_wp2_with (first | (refine wpList_load_mid rfl 24 _ rfl w.heap.size 0 rfl cs.toList _ (by exact M.out) Tryz.underlying24 rfl (by rw [HCL.out]; kernel_rfl) ?_) | (with_reducible refine wpList_build3 rfl 28 _ _ _ rfl (.agg cs) (.slice a1 n1 c1) (.slice a2 n2 c2) (sV c (.slice a1 n1 c1) (.slice a2 n2 c2)) (HBD.out _) (by with_unfolding_all rfl) (by with_unfolding_all rfl) (by with_unfolding_all rfl) ?_) | (refine wpList_store_row rfl 28 _ _ rfl (w.heap.size + 1) (sC c (.slice a1 n1 c1) (.slice a2 n2 c2)) rfl rfl _ _ (by exact HY.out) (by kernel_rfl) (by kernel_rfl) (by kernel_rfl) ?_))
  refine bodyPost_ret (v := sV c (.slice a1 n1 c1) (.slice a2 n2 c2)) ?_ rfl ?_
  · exact results_cell1 (p := 2) (ty := 28) Tryz.results17 _ _ (w.heap.size + 1) 28 _ (0, 0) _ rfl HY1.out Tryz.underlying28 rfl (by kernel_rfl)
  · exact ⟨rfl, below_setRow HB.out (Nat.le_succ _) _⟩
/-- The limits of the laws. -/
def greatS (s : ScD) : Bool := decide (10 < s.p.length) || decide (100 < s.k.length) || s.p.any fun l => decide (30 < l.length)
set_option maxRecDepth 100000 in
set_option maxHeartbeats 4000000 in
theorem fGreat (s : ScD) (ap ak : Option Addr) (cp ck : Nat) (w : World) (RK : Reads w .i64 (.slice ak s.k.length ck) s.k) (RP : ReadsP w (.slice ap s.p.length cp) s.p) :
    Calls Tryz.prog 8 #[sV s.c (.slice ap s.p.length cp) (.slice ak s.k.length ck)] w fun e w' => e = .returned (.bool (greatS s)) ∧ Below w.heap.size w w' := by
  obtain ⟨c, p, k⟩ := s
  simp only at *
  obtain ⟨w1, hw1⟩ : ∃ q, q = w.alloc (.cells (sC c (.slice ap p.length cp) (.slice ak k.length ck)) 28) := ⟨_, rfl⟩
  have X1 : Bk w1 w.heap.size (sC c (.slice ap p.length cp) (.slice ak k.length ck)) 28 := by rw [hw1]; exact Bk.new w _ _
  have b1 : Below w.heap.size w w1 := by rw [hw1]; exact (Below.refl _ _).alloc (Nat.le_refl _) _
  have HRP := Lib.hid RP
  have hpl := RP.len
  have hkl : k.length ≤ 9223372036854775807 := by
    obtain ⟨_, _, he, h1, h2, _⟩ := RK
    unfold maxLen at h2
    omega
  have HX := Lib.hid X1
  have HB := Lib.hid b1
  have x1 := X1.cells
  have l1 := X1.lt
  clear RK RP b1 X1
  go_enter Tryz.func8, Tryz.ntmps8
  go_upto_region 1 with fail
  rw [← hw1]
  clear hw1
  by_cases h1 : 10 < p.length
  · have hd : 10 < (p.length : Int) := by omega
    have HE : RowKit.Hid (greatS ⟨c, p, k⟩ = true) := Lib.hid (by unfold greatS; simp [h1])
    clear h1
    go_wp2
    go_ret
    exact ⟨Wd.ret_bool HE.out.symm, HB.out⟩
  have hd : ¬ 10 < (p.length : Int) := by omega
  by_cases h2 : 100 < k.length
  · have hd2 : 100 < (k.length : Int) := by omega
    have HE : RowKit.Hid (greatS ⟨c, p, k⟩ = true) := Lib.hid (by unfold greatS; simp [h2])
    clear h2
    go_wp2
    go_ret
    exact ⟨Wd.ret_bool HE.out.symm, HB.out⟩
  have hd2 : ¬ 100 < (k.length : Int) := by omega
  have HG : RowKit.Hid (greatS ⟨c, p, k⟩ = p.any fun l => decide (30 < l.length)) := Lib.hid (by unfold greatS; simp [h1, h2])
  clear h2
  go_wp2
  clear x1 l1
  go_loopw [3] (fun i wr => ∃ n : Nat, n ≤ p.length ∧ i = .int .i64 (n : Int) ∧ RowKit.Hid (∀ t (h : t < n) (h1 : t < p.length), ¬ 30 < p[t].length) ∧ RowKit.Hid (Below w.heap.size w wr) ∧ RowKit.Hid (Bk wr w.heap.size (sC c (.slice ap p.length cp) (.slice ak k.length ck)) 28)) (fun i _ => p.length - (intOf i).toNat)
  case atStart => exact ⟨0, Nat.zero_le _, rfl, Lib.hid (fun t h => by omega), HB, HX⟩
  case round =>
    obtain ⟨n, hn, rfl, HA, HW, HV⟩ := hrel
    have x3 := HV.out.cells
    have l3 := HV.out.lt
    by_cases hlt : n < p.length
    · obtain ⟨_, _, he, _, _, hrp⟩ := HRP.out
      injection he with he1 _ he2
      subst he1 he2
      rcases hrp with hrp | ⟨b, off, rfl, hbl, hcell⟩
      · rw [hrp] at hlt; cases hlt
      obtain ⟨u, hu0, hu2⟩ := hcell n hlt
      have hu1 := (HW.out.cell (p := ⟨b, off + n, none⟩) hbl).trans hu0
      obtain ⟨q, hq9⟩ : ∃ q, q = p[n] := ⟨_, rfl⟩
      rw [← hq9] at hu2
      obtain ⟨au, cu, rfl, hcu, hcm, _⟩ := hu2
      have HQ := Lib.hid hq9
      have hqm : q.length ≤ 9223372036854775807 := by unfold maxLen at hcm; omega
      have hsum : IntKind.i64.wrap ((n : Int) + 1) = (n : Int) + 1 := IntWalk.i64_in _ (by omega)
      clear hcell hu0 hq9
      by_cases h30 : 30 < q.length
      · have hd3 : 30 < (q.length : Int) := by omega
        have HE : RowKit.Hid (greatS ⟨c, p, k⟩ = true) := Lib.hid (by
          rw [HG.out]
          exact List.any_eq_true.2 ⟨p[n], List.getElem_mem hlt, by rw [← HQ.out]; simpa using h30⟩)
        clear h30
        go_wp2
        go_ret
        exact ⟨Wd.ret_bool HE.out.symm, HW.out⟩
      · have hd3 : ¬ 30 < (q.length : Int) := by omega
        have H30 := Lib.hid h30
        clear h30
        go_wp2
        go_roundw
        case rel => exact ⟨n + 1, by omega, by go_num, Lib.hid (fun t h h1 => by rcases Nat.lt_succ_iff_lt_or_eq.1 h with h | rfl; exact HA.out t h h1; rw [← HQ.out]; exact H30.out), HW, HV⟩
        case measure => simp [intOf]; omega
    · obtain rfl : n = p.length := by omega
      have HE : RowKit.Hid (greatS ⟨c, p, k⟩ = false) := Lib.hid (by
        rw [HG.out, Bool.eq_false_iff]
        intro h
        obtain ⟨l, hl, hd⟩ := List.any_eq_true.1 h
        obtain ⟨t, ht, rfl⟩ := List.mem_iff_getElem.1 hl
        exact HA.out t ht ht (of_decide_eq_true hd))
      go_wp2
      go_ret
      exact ⟨Wd.ret_bool HE.out.symm, HW.out⟩
end Go.Proofs.YtpmcedfeiconfaaGreatDoor.Scw

/- Layer 21: the laws' awake. -/
namespace Go.Proofs.YtpmcedfeiconfaaGreatDoor.Scw
open Go Go.RowKit Go.ChangeMaps Go.Proofs.YtpmcedfeiconfaaGreatDoor.Gro Go.Proofs.YtpmcedfeiconfaaGreatDoor.Own Go.Proofs.YtpmcedfeiconfaaGreatDoor.Mr Go.Proofs.YtpmcedfeiconfaaGreatDoor.Opn Go.Proofs.YtpmcedfeiconfaaGreatDoor.Opw Go.Proofs.YtpmcedfeiconfaaGreatDoor.Pl Go.Proofs.YtpmcedfeiconfaaGreatDoor.Scr Go.Proofs.YtpmcedfeiconfaaGreatDoor.Wd
set_option linter.unusedVariables false
set_option linter.unusedSimpArgs false
abbrev c21 : Cfg := ⟨1, 1, 2, 1, 1, 0, 1, 9⟩
abbrev o21 : OpD := ⟨3, 0, 7, 0, false, 0, 0⟩
abbrev s21 : ScD := ⟨c21, [[o21]], [0, 0]⟩
abbrev t21 : List UInt8 := [104, 97, 108, 108, 32, 49, 32, 49, 32, 50, 32, 49, 32, 49, 32, 48, 32, 49, 32, 57, 10, 100, 111, 32, 48, 32, 97, 108, 108, 111, 99, 32, 55, 10, 112, 105, 99, 107, 32, 48, 32, 48, 10]
abbrev u21 : List UInt8 := [104, 97, 108, 108, 32, 49, 32, 49, 32, 50, 32, 49, 32, 49, 32, 48, 32, 49, 32, 57, 10, 112, 105, 99, 107, 32, 49, 10]
theorem dec_one {n : Nat} (h : n < 10) : dec (n : Int) = [UInt8.ofNat (48 + n)] := by
  unfold dec
  rw [Int.toNat_natCast, Lib.decDigits_one h]
theorem text_o21 : text o21 = [97, 108, 108, 111, 99, 32, 55] := by
  have h3 : dec 7 = [55] := Lib.decDigits_one (by decide)
  have h5 : words o21 = [name 3, [55]] := by
    unfold words parts
    rw [h3]
    rfl
  unfold text
  rw [h5]
  decide
theorem hall_c21 : hallL c21 = [104, 97, 108, 108, 32, 49, 32, 49, 32, 50, 32, 49, 32, 49, 32, 48, 32, 49, 32, 57] := by
  have h0 : dec 0 = [48] := Lib.decDigits_one (by decide)
  have h1 : dec 1 = [49] := Lib.decDigits_one (by decide)
  have h2 : dec 2 = [50] := Lib.decDigits_one (by decide)
  have h9 : dec 9 = [57] := Lib.decDigits_one (by decide)
  unfold hallL numsT cfgL
  simp [h0, h1, h2, h9]
theorem text_s21 : textS s21 = t21 := by
  have h0 : dec 0 = [48] := Lib.decDigits_one (by decide)
  have hd : doL 0 o21 = [100, 111, 32, 48, 32, 97, 108, 108, 111, 99, 32, 55] := by
    unfold doL
    rw [text_o21]
    have : dec ((0 : Nat) : Int) = [48] := h0
    rw [this]
    rfl
  have hp : pickL [0, 0] = [112, 105, 99, 107, 32, 48, 32, 48] := by
    unfold pickL numsT
    simp [h0]
  have hl : lines s21 = [hallL c21, doL 0 o21, pickL [0, 0]] := by
    unfold lines
    rfl
  unfold textS
  rw [hl, hall_c21, hd, hp]
  rfl
theorem right_s21 : rightS s21 = true := by decide
theorem fit_s21 : FitS s21 := by
  intro l hl o ho
  simp at hl
  subst hl
  simp at ho
  subst ho
  exact ⟨by decide, by decide, by decide, by decide, by decide, by decide⟩
theorem parse_t21 : parseS (t21.length + 1) 1 t21 st0 = (some s21, 0) := by
  rw [← text_s21]
  exact parse_back right_s21 fit_s21 (by rw [text_s21]; decide)
theorem pick_no {k : Int} {st : RdS} (h0 : 0 ≤ k ∧ k ≤ 9223372036854775807) (hin : inR st.s.c [k] = false) : lineS (pickL [k]) st = none := by
  have hc : Lib.cut (pickL [k]) [32] = (pickW, Lib.join (List.map dec [k]) [32], true) := by rw [pickL, nums_join]; exact cut_hit (by decide)
  have hr : rdNums 20 (Lib.join (List.map dec [k]) [32]) = some [k] := rdNums_back (fun x hx => by rw [List.mem_singleton.1 hx]; exact h0) (by decide)
  unfold lineS
  rw [hc]
  simp only [hr]
  rw [if_neg (by decide), if_neg (by decide), if_pos trivial]
  split
  · rw [if_neg (by rw [hin]; simp)]
  · rfl
theorem parse_u21 : parseS (u21.length + 1) 1 u21 st0 = (none, 2) := by
  have h1 : dec 1 = [49] := Lib.decDigits_one (by decide)
  have hp : pickL [1] = [112, 105, 99, 107, 32, 49] := by
    unfold pickL numsT
    simp [h1]
  have he : u21 = endl ([hallL c21] ++ pickL [1] :: []) := by
    rw [hall_c21, hp]
    rfl
  have hl : u21.length = 28 := rfl
  rw [hl, he]
  exact parse_bad [hallL c21] (pickL [1]) [] 29 1 st0 ⟨{ st0.s with c := c21 }, hallW⟩ (fun x hx => by rw [List.mem_singleton.1 hx, hall_c21]; decide) (by rw [hp]; decide) (by decide)
    (by unfold feed; rw [hall_line (by decide) rfl]; rfl) (pick_no (by decide) (by decide))
theorem build_o21 (u : World) : (Instr.build 50 #[(0, .int .i64 3), (2, .int .u64 7)]).run Tryz.prog u = .ok (.agg (opC o21)) u := run_build u _ _ _ (by kernel_rfl)
set_option maxRecDepth 100000 in
set_option maxHeartbeats 16000000 in
theorem awake (w : World) (L : Lb w) : Calls Tryz.prog 7 #[] w fun e w' => e = .returned (.bool true) ∧ Below w.heap.size w w' := by
  have hP := fParseS t21 (by decide) w L
  rw [parse_t21] at hP
  have HP := Lib.hid hP
  have HL := Lib.hid L
  have hbw := build_o21
  clear hP L
  go_enter Tryz.func7, Tryz.ntmps7
  go_wp2_with fail
  refine HP.out.mono ?_
  rintro e w1 ⟨hb1, hy, -⟩
  obtain ⟨ap, cp, ak, ck, rfl, hRP, hRK⟩ := hy s21 rfl
  clear hy HP
  obtain ⟨_, _, he, hp1, hp2, hRP⟩ := hRP
  injection he with he1 _ he2
  subst he1 he2
  rcases hRP with hRP | ⟨b, off, rfl, hbl, hcell⟩
  · cases hRP
  obtain ⟨u, hu1, hu2⟩ := hcell 0 (by decide)
  obtain ⟨au, cu, rfl, hcu, hcm, hu2⟩ := hu2
  have hcu : 1 ≤ cu := hcu
  rcases hu2 with hu2 | ⟨b2, off2, rfl, hb2l, hrow⟩
  · cases hu2
  have hrw := hrow 0 (by decide)
  have X1 := Bk.new w1 scZ 34
  have X2 := X1.setRow (sC c21 (.slice (some ⟨b, off, none⟩) 1 cp) (.slice ak 2 ck))
  have bw2 : Below w1.heap.size w1 ((w1.alloc (.cells scZ 34)).setRow w1.heap.size (sC c21 (.slice (some ⟨b, off, none⟩) 1 cp) (.slice ak 2 ck))) := below_setRow ((Below.refl _ _).alloc (Nat.le_refl _) _) (Nat.le_refl _) _
  obtain ⟨w2, hw2⟩ : ∃ q, q = ((w1.alloc (.cells scZ 34)).setRow w1.heap.size (sC c21 (.slice (some ⟨b, off, none⟩) 1 cp) (.slice ak 2 ck))) := ⟨_, rfl⟩
  rw [← hw2] at X2 bw2
  have HX1 := Lib.hid X1
  have HX2 := Lib.hid X2
  have hQ := fParseS u21 (by decide) w2 (HL.out.keep (hb1.trans (bw2.mono hb1.size)))
  rw [parse_u21] at hQ
  have HQ := Lib.hid hQ
  have HB2 := Lib.hid (hb1.trans (bw2.mono hb1.size))
  have HU := Lib.hid ((bw2.cell (p := ⟨b, off + 0, none⟩) hbl).trans hu1)
  have HRW : RowKit.Hid (w2.rangeAt b2 (off2 + 0 * 7) (opC o21).toList) := Lib.hid (fun j v hv => (bw2.cell (p := ⟨b2, _, none⟩) hb2l).trans (hrw j v hv))
  have HBL := Lib.hid (And.intro (Nat.lt_of_lt_of_le hbl bw2.size) (Nat.lt_of_lt_of_le hb2l bw2.size))
  clear X1 X2 bw2 hQ hb1 hRK hcell hu1 hrow hrw hbl hb2l
  go_wp2_with (first | (refine wpList_alloc_scz rfl rfl ?_) | ((refine wpList_store_row rfl 34 _ _ rfl w1.heap.size (sC c21 (.slice (some ⟨b, off, none⟩) 1 cp) (.slice ak 2 ck)) rfl rfl _ _ (by exact HX1.out) (by kernel_rfl) (by kernel_rfl) (by kernel_rfl) ?_); rw [← hw2]; clear hw2))
  refine HQ.out.mono ?_
  rintro e w3 ⟨hb3, -, hn⟩
  obtain rfl := hn rfl
  clear hn HQ
  have Y1 := Bk.new w3 scZ 34
  have b34 : Below w3.heap.size w3 (w3.alloc (.cells scZ 34)) := (Below.refl _ _).alloc (Nat.le_refl _) _
  obtain ⟨w5, hw5⟩ : ∃ q, q = w3.alloc (.cells scZ 34) := ⟨_, rfl⟩
  rw [← hw5] at Y1 b34
  have b4 : Below w3.heap.size w3 (w5.setRow w3.heap.size scZ) := below_setRow b34 (Nat.le_refl _) _
  obtain ⟨w4, hw4⟩ : ∃ q, q = w5.setRow w3.heap.size scZ := ⟨_, rfl⟩
  rw [← hw4] at b4
  have HY1 := Lib.hid Y1
  have b24 := hb3.trans (b4.mono hb3.size)
  have X4 := HX2.out.keep b24
  have HU4 : w4.cell? ⟨b, off, none⟩ = some (.slice (some ⟨b2, off2, none⟩) 1 cu) := (b24.cell (p := ⟨b, off + 0, none⟩) HBL.out.1).trans HU.out
  have hof : off2 = off2 + 0 * 7 := (Nat.add_zero _).symm.trans (by rw [Nat.zero_mul])
  have hrw4 : w4.rangeAt b2 off2 (opC o21).toList := by
    rw [hof]
    exact fun j v hv => (b24.cell (p := ⟨b2, _, none⟩) HBL.out.2).trans (HRW.out j v hv)
  have HRW4 := Lib.hid hrw4
  have HB4 := Lib.hid (HB2.out.trans (b24.mono HB2.out.size))
  have HX4 := Lib.hid X4
  have HBL4 := Lib.hid (Nat.lt_of_lt_of_le HBL.out.1 b24.size)
  clear hrw4 hof Y1 b4 b34 b24 hb3 X4 HX2
  go_wp2_with (first | (refine wpList_alloc_scz rfl rfl ?_; rw [← hw5]; clear hw5) | ((refine wpList_store_row rfl 34 _ _ rfl w3.heap.size scZ rfl rfl _ _ (by exact HY1.out) (by kernel_rfl) (by kernel_rfl) (by kernel_rfl) ?_); rw [← hw4]; clear hw4; have x4 := HX4.out.cells; have l4 := HX4.out.lt; have hb4 := HBL4.out) | (refine wpList_load_mid_w (by rfl) 50 _ rfl b2 off2 rfl (opC o21).toList _ (by exact HRW4.out) Tryz.underlying50 rfl (by kernel_rfl) ?_))
  go_ret
  exact ⟨rfl, HB4.out⟩
end Go.Proofs.YtpmcedfeiconfaaGreatDoor.Scw

/- Layer 21: what is read fits its types. -/
namespace Go.Proofs.YtpmcedfeiconfaaGreatDoor.Scr
open Go Go.Lib Go.Proofs.YtpmcedfeiconfaaGreatDoor.Opn Go.Proofs.YtpmcedfeiconfaaGreatDoor.Opw Go.Proofs.YtpmcedfeiconfaaGreatDoor.Pl
set_option linter.unusedVariables false
set_option linter.unusedSimpArgs false
theorem parse_fits {l : List UInt8} {o : OpD} (hp : parseL l = some o) : o.Fits := by
  unfold parseL at hp
  split at hp
  · cases hp
  · rename_i o' ho
    split at hp
    · injection hp with hp
      exact hp ▸ read_fits ho
    · cases hp
theorem line_fit {l : List UInt8} {st st' : RdS} (F : FitS st.s) (h : lineS l st = some st') : FitS st'.s := by
  unfold lineS at h
  split at h
  · split at h
    · split at h
      · cases h
      · split at h
        · injection h with h; subst h; exact F
        · cases h
    · cases h
  · split at h
    · split at h
      · split at h
        · rename_i x y w o h1 h2
          split at h
          · injection h with h
            subst h
            intro l' hl' o' ho'
            rcases mem_add hl' with hm | hm | hm | hm
            · exact F l' hm o' ho'
            · subst hm; cases ho'
            · rw [hm.1] at ho'
              rcases List.mem_append.1 ho' with ho' | ho'
              · refine F (st.s.p.getD w []) ?_ o' ho'
                have hw : w < st.s.p.length := by have := hm.2; omega
                rw [List.getD_eq_getElem?_getD, List.getElem?_eq_getElem hw]
                exact List.getElem_mem hw
              · rw [List.mem_singleton.1 ho']; exact parse_fits h2
            · subst hm
              rw [List.mem_singleton.1 ho']; exact parse_fits h2
          · cases h
        · cases h
      · cases h
    · split at h
      · split at h
        · split at h
          · cases h
          · split at h
            · injection h with h; subst h; exact F
            · cases h
        · cases h
      · cases h
theorem feed_fit : ∀ (ls : List (List UInt8)) (st st' : RdS), FitS st.s → feed ls st = some st' → FitS st'.s
  | [], st, st', F, h => by
    unfold feed at h
    injection h with h
    exact h ▸ F
  | l :: r, st, st', F, h => by
    unfold feed at h
    cases hl : lineS l st with
    | none => rw [hl] at h; cases h
    | some s1 =>
      rw [hl] at h
      exact feed_fit r s1 st' (line_fit F hl) h
theorem parse_fit {f n : Nat} {t : List UInt8} {s : ScD} {k : Nat} (h : parseS f n t st0 = (some s, k)) : FitS s := by
  obtain ⟨_, ls, st', _, _, hf, rfl⟩ := parse_some f n t st0 s k h
  exact feed_fit ls st0 st' (fun l hl => by cases hl) hf
theorem right_wf {s : ScD} (h : rightS s = true) : s.c.Wf := by
  have := ok_in ((right_iff s).1 h).1 s.c.la (by simp [cfgL])
  unfold In63 at this
  exact ⟨by omega, by omega⟩
end Go.Proofs.YtpmcedfeiconfaaGreatDoor.Scr
