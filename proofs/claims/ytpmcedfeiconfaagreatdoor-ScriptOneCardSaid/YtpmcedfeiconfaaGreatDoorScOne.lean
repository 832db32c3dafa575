/- Layer 21: the law ScriptOne, walked. -/
import Derived.Test.YtpmcedfeiconfaaGreatDoorScLaws
namespace Go.Proofs.YtpmcedfeiconfaaGreatDoor.Scw
open Go Go.RowKit Go.ChangeMaps Go.Proofs.YtpmcedfeiconfaaGreatDoor.Gro Go.Proofs.YtpmcedfeiconfaaGreatDoor.Own Go.Proofs.YtpmcedfeiconfaaGreatDoor.Mr Go.Proofs.YtpmcedfeiconfaaGreatDoor.Opn Go.Proofs.YtpmcedfeiconfaaGreatDoor.Opw Go.Proofs.YtpmcedfeiconfaaGreatDoor.Pl Go.Proofs.YtpmcedfeiconfaaGreatDoor.Scr Go.Proofs.YtpmcedfeiconfaaGreatDoor.Wd
set_option linter.unusedVariables false
set_option linter.unusedSimpArgs false
theorem build_rz (u : World) : (Instr.build 28 #[]).run Tryz.prog u = .ok (.agg scZ) u := run_build u _ _ _ (by kernel_rfl)
theorem fPlain0 (w : World) : Calls Tryz.prog 17 #[.agg scZ] w fun e w' => e = .returned (.agg scZ) ∧ Below w.heap.size w w' := fPlain cz none none 0 0 0 0 w
theorem rSame0 (w : World) : Calls Tryz.prog 14 #[.agg scZ, .agg scZ] w fun e w' => e = .returned (.bool true) ∧ Below w.heap.size w w' := by
  have h := rSame cz cz [] [] [] [] none none none none 0 0 0 0 w ⟨none, 0, rfl, Nat.le_refl _, Nat.zero_le _, .inl rfl⟩ (Wd.Reads.nil w .i64) ⟨none, 0, rfl, Nat.le_refl _, Nat.zero_le _, .inl rfl⟩ (Wd.Reads.nil w .i64)
  have e : sameS ⟨cz, [], []⟩ ⟨cz, [], []⟩ = true := by decide
  rw [e] at h
  exact h
theorem str_eq (t : List UInt8) : ((ByteArray.mk t.toArray).toList == (ByteArray.mk t.toArray).toList) = true := by simp
theorem byte_at (t : List UInt8) (n : Nat) (h : n < t.length) (h2 : n < (ByteArray.mk t.toArray).size) : (ByteArray.mk t.toArray)[n] = t[n] := by rfl
theorem count_step (t : List UInt8) (n : Nat) (h : n < t.length) : (t.take (n + 1)).count 10 = (t.take n).count 10 + (if t[n] = 10 then 1 else 0) := by
  rw [List.take_succ_eq_append_getElem h, List.count_append, List.count_singleton]
  simp
set_option maxRecDepth 100000 in
set_option maxHeartbeats 16000000 in
theorem scriptOne (t : List UInt8) (w : World) (L : Lb w) (hs : t.length ≤ 9223372036854775807) : Calls Tryz.prog 5 #[strV t] w fun e w' => e = .returned (.bool true) ∧ Below w.heap.size w w' := by
  have HL := Lib.hid L
  clear L
  by_cases hl : 2000 < t.length
  · go_enter Tryz.func5, Tryz.ntmps5
    go_wp2_with fail
    refine (awake w HL.out).mono ?_
    rintro e w1 ⟨rfl, hb1⟩
    go_wp2_with fail
    go_ret
    exact ⟨rfl, hb1⟩
  have hl' : t.length ≤ 2000 := by omega
  clear hl
  go_enter Tryz.func5, Tryz.ntmps5
  go_wp2_with fail
  refine (awake w HL.out).mono ?_
  rintro e w1 ⟨rfl, hb1⟩
  have hP := fParseS t (by omega) w1 (HL.out.keep hb1)
  obtain ⟨r, hr⟩ : ∃ r, r = parseS (t.length + 1) 1 t st0 := ⟨_, rfl⟩
  rw [← hr] at hP
  obtain ⟨ro, rk⟩ := r
  have HB1 := Lib.hid hb1
  have HP := Lib.hid hP
  clear hP hb1
  cases ro with
  | some s =>
    obtain ⟨hk0, hri, htx⟩ := parse_right hr.symm
    have HF := Lib.hid (parse_fit hr.symm)
    have HRI := Lib.hid hri
    have HTX := Lib.hid htx
    clear hr hri htx
    subst hk0
    go_wp2_with fail
    refine HP.out.mono ?_
    rintro e w2 ⟨hb2, hy, -⟩
    obtain ⟨ap, cp, ak, ck, rfl, hRP, hRK⟩ := hy s rfl
    clear hy HP
    have X1 := Bk.new w2 scZ 34
    obtain ⟨w3, hw3⟩ : ∃ q, q = (w2.alloc (.cells scZ 34)).setRow w2.heap.size (sC s.c (.slice ap s.p.length cp) (.slice ak s.k.length ck)) := ⟨_, rfl⟩
    have X3 : Bk w3 w2.heap.size (sC s.c (.slice ap s.p.length cp) (.slice ak s.k.length ck)) 34 := by rw [hw3]; exact X1.setRow _
    have b23 : Below w2.heap.size w2 w3 := by rw [hw3]; exact below_setRow ((Below.refl _ _).alloc (Nat.le_refl _) _) (Nat.le_refl _) _
    have b03 := HB1.out.trans ((hb2.trans (b23.mono hb2.size)).mono HB1.out.size)
    have HT := Lib.hid (fScText s (right_wf HRI.out) HF.out ap ak cp ck w3 (HL.out.keep b03) (hRK.keep b23) (hRP.keep b23) HRI.out)
    rw [HTX.out] at HT
    have HX1 := Lib.hid X1
    have HX3 := Lib.hid X3
    have HB3 := Lib.hid b03
    have hse := str_eq t
    clear X1 X3 b23 b03 hRP hRK hb2
    go_wp2_with (first | (refine wpList_alloc_scz rfl rfl ?_) | ((refine wpList_store_row rfl 34 _ _ rfl w2.heap.size (sC s.c (.slice ap s.p.length cp) (.slice ak s.k.length ck)) rfl rfl _ _ (by exact HX1.out) (by kernel_rfl) (by kernel_rfl) (by kernel_rfl) ?_); rw [← hw3]; clear hw3) | (refine wpList_load_row_w rfl 34 _ rfl w2.heap.size rfl _ (sC s.c (.slice ap s.p.length cp) (.slice ak s.k.length ck)) (0, 0) _ (by exact HX3.out) Tryz.underlying34 rfl (by kernel_rfl) ?_))
    refine HT.out.mono ?_
    rintro e w4 ⟨rfl, hb4⟩
    have HB4 := Lib.hid (HB3.out.trans (hb4.mono HB3.out.size))
    clear hb4 HT
    go_wp2_with fail
    go_ret
    exact ⟨by simp, HB4.out⟩
  | none =>
    obtain ⟨hk1, hk2⟩ := parse_none _ _ _ _ _ hr.symm
    clear hr
    have HK2 := Lib.hid hk2
    have hcl : t.count 10 ≤ t.length := List.count_le_length
    have hkb : rk ≤ 2001 := by omega
    clear hk2 hcl
    go_wp2_with fail
    refine HP.out.mono ?_
    rintro e w2 ⟨hb2, -, hn⟩
    obtain rfl := hn rfl
    clear hn HP
    have X1 := Bk.new w2 scZ 34
    have b12 : Below w2.heap.size w2 (w2.alloc (.cells scZ 34)) := (Below.refl _ _).alloc (Nat.le_refl _) _
    obtain ⟨w5, hw5⟩ : ∃ q, q = w2.alloc (.cells scZ 34) := ⟨_, rfl⟩
    rw [← hw5] at X1 b12
    obtain ⟨w3, hw3⟩ : ∃ q, q = w5.setRow w2.heap.size scZ := ⟨_, rfl⟩
    have X3 : Bk w3 w2.heap.size scZ 34 := by rw [hw3]; exact X1.setRow _
    have b23 : Below w2.heap.size w2 w3 := by rw [hw3]; exact below_setRow b12 (Nat.le_refl _) _
    have b03 := HB1.out.trans ((hb2.trans (b23.mono hb2.size)).mono HB1.out.size)
    have HX1 := Lib.hid X1
    have HX3 := Lib.hid X3
    have HB3 := Lib.hid b03
    have hbz := build_rz
    clear X1 X3 b12 b23 b03 hb2
    go_wp2_with (first | (refine wpList_alloc_scz rfl rfl ?_; rw [← hw5]; clear hw5) | ((refine wpList_store_row rfl 34 _ _ rfl w2.heap.size scZ rfl rfl _ _ (by exact HX1.out) (by kernel_rfl) (by kernel_rfl) (by kernel_rfl) ?_); rw [← hw3]; clear hw3))
    go_loopw [8, 9] (fun lv iv wr => ∃ n m : Nat, n ≤ t.length ∧ m ≤ n ∧ iv = .int .i64 (n : Int) ∧ lv = .int .i64 ((m : Int) + 1) ∧ RowKit.Hid (m = (t.take n).count 10) ∧ RowKit.Hid (Below w3.heap.size w3 wr)) (fun _ i _ => t.length - (intOf i).toNat)
    case atStart => exact ⟨0, 0, Nat.zero_le _, Nat.le_refl _, rfl, rfl, Lib.hid (by simp), Lib.hid (Below.refl _ _)⟩
    case round =>
      obtain ⟨n, m, hn, hm, rfl, rfl, HM, HW⟩ := hrel
      by_cases hlt : n < t.length
      · have HC := Lib.hid (count_step t n hlt)
        have hsum : IntKind.i64.wrap ((n : Int) + 1) = (n : Int) + 1 := IntWalk.i64_in _ (by omega)
        have hsum2 : IntKind.i64.wrap ((m : Int) + 1 + 1) = (m : Int) + 1 + 1 := IntWalk.i64_in _ (by omega)
        obtain ⟨c, hc⟩ : ∃ c, c = t[n] := ⟨_, rfl⟩
        have hcb : (ByteArray.mk t.toArray)[n]'hlt = c := hc.symm
        rw [← hc] at HC
        clear hc
        by_cases h10 : c = 10
        · subst h10
          go_wp2
          go_roundw
          case rel => exact ⟨n + 1, m + 1, by omega, by omega, by go_num, by go_num, Lib.hid (by rw [HC.out, ← HM.out]; rfl), HW⟩
          case measure => simp [intOf]; omega
        · have hd : ¬ ((c.toNat : Int) = 10) := fun e => h10 (UInt8.toNat_inj.1 (by
            have : (10 : UInt8).toNat = 10 := by decide
            omega))
          have H10 := Lib.hid h10
          clear h10
          go_wp2
          go_roundw
          case rel => exact ⟨n + 1, m, by omega, by omega, by go_num, rfl, Lib.hid (by rw [HC.out, ← HM.out, if_neg H10.out, Nat.add_zero]), HW⟩
          case measure => simp [intOf]; omega
      · obtain rfl : n = t.length := by omega
        have hkm : rk ≤ m + 1 := by
          have h1 := HM.out
          rw [List.take_length] at h1
          have h2 := HK2.out
          omega
        have hge : 1 ≤ (rk : Int) := by omega
        have hle : (rk : Int) ≤ (m : Int) + 1 := by omega
        clear hkm
        have HX4 := Lib.hid (HX3.out.keep HW.out)
        have HB4 := Lib.hid (HB3.out.trans (HW.out.mono HB3.out.size))
        go_wp2_with (refine wpList_load_row_w rfl 34 _ rfl w2.heap.size rfl _ scZ (0, 0) _ (by exact HX4.out) Tryz.underlying34 rfl (by kernel_rfl) ?_)
        refine (fPlain0 _).mono ?_
        rintro e w6 ⟨rfl, hb6⟩
        have HB6 := Lib.hid (HB4.out.trans (hb6.mono HB4.out.size))
        clear hb6
        go_wp2_with fail
        refine (rSame0 _).mono ?_
        rintro e w7 ⟨rfl, hb7⟩
        have HB7 := Lib.hid (HB6.out.trans (hb7.mono HB6.out.size))
        clear hb7
        go_wp2_with fail
        go_ret
        exact ⟨by simp, HB7.out⟩
end Go.Proofs.YtpmcedfeiconfaaGreatDoor.Scw
