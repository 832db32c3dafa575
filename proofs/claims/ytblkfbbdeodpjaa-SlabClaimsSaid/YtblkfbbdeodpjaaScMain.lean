/- The law SlabClaims where there are picks (made by gensc2.py). -/
import Derived.Test.YtblkfbbdeodpjaaScBase
namespace Go.Proofs.Ytblkfbbdeodpjaa.Me
open Go Go.RowKit Go.Proofs.Ytblkfbbdeodpjaa.Gro Go.Proofs.Ytblkfbbdeodpjaa.Own Go.Proofs.Ytblkfbbdeodpjaa.Wd Go.Proofs.Ytblkfbbdeodpjaa.Ap Go.Proofs.Ytblkfbbdeodpjaa.Pl Go.Proofs.Ytblkfbbdeodpjaa.Wo
set_option linter.unusedVariables false
set_option linter.unusedSimpArgs false
set_option maxRecDepth 100000 in
set_option maxHeartbeats 16000000 in
theorem sc_main (n0 n1 n2 : Int) (hn0 : 0 ≤ n0 ∧ n0 < 256) (hn1 : 0 ≤ n1 ∧ n1 < 256) (hn2 : 0 ≤ n2 ∧ n2 < 256) (bp op cap : Nat) (pk : List Int) (hpk : ∀ x ∈ pk, 0 ≤ x ∧ x < 256) (hsh : pk.length ≤ 800) (w : World) (hbp : bp < w.heap.size) (hc : ∀ i (hi : i < pk.length), w.cell? ⟨bp, op + i, none⟩ = some (.int .u8 pk[i])) : Calls Try.prog 7 #[.int .u8 n0, .int .u8 n1, .int .u8 n2, .slice (some ⟨bp, op, none⟩) pk.length cap] w fun e w' => e = .returned (.bool true) ∧ Below w.heap.size w w' := by
  obtain ⟨N, hN⟩ : ∃ N : Nat, (N : Int) = 1 + n0 % 8 := ⟨(1 + n0 % 8).toNat, by omega⟩
  obtain ⟨M, hM⟩ : ∃ M : Nat, (M : Int) = 1 + n1 % 3 := ⟨(1 + n1 % 3).toNat, by omega⟩
  obtain ⟨B, hB⟩ : ∃ B : Nat, (B : Int) = 1 + n2 % 4 := ⟨(1 + n2 % 4).toNat, by omega⟩
  have hN8 : 1 ≤ N ∧ N ≤ 8 := by omega
  have hM8 : 1 ≤ M ∧ M ≤ 3 := by omega
  have hB8 : 1 ≤ B ∧ B ≤ 4 := by omega
  have hD : ScD N M B := ⟨hN8, hM8, hB8⟩
  have HNN := Lib.hid (show 1 + n0 % 8 = (N : Int) by omega)
  have HMM := Lib.hid (show 1 + n1 % 3 = (M : Int) by omega)
  have HBB := Lib.hid (show 1 + n2 % 4 = (B : Int) by omega)
  have hbc : ∀ w, (Instr.build 24 #[(0, .int .i64 (N : Int)), (1, .int .i64 (M : Int)), (2, .int .i64 (B : Int)), (3, .int .i64 1), (4, .int .i64 1), (6, .int .i64 1), (7, .int .u64 1)]).run Try.prog w = .ok (cv (cSc N M B)) w := fun w => run_build w _ _ _ (by kernel_rfl)
  clear hN hM hB
  have hn := newMem_ok (cSc N M B) (cSc_wf hD) (chk_ok.1 (cSc_chk hD))
  have HN := Lib.hid hn
  have HWF := Lib.hid (cSc_wf hD)
  have HST0 := Lib.hid (sc_start hD)
  have hb40 : ∀ w, (Instr.build 40 #[(3, .int .i64 (-1))]).run Try.prog w = .ok (.agg #[.int .i64 0, .int .u64 0, .int .u64 0, .int .i64 (-1), .bool false, .int .i64 0, .int .i64 0]) w := fun w => run_build w _ _ _ (by kernel_rfl)
  have hb33 : ∀ w, (Instr.build 46 #[(0, .int .i64 33), (3, .int .u64 2), (1, .agg #[.int .i64 0, .int .u64 0, .int .u64 0, .int .i64 (-1), .bool false, .int .i64 0, .int .i64 0])]).run Try.prog w = .ok (wv s33) w := fun w => run_build w _ _ _ (by kernel_rfl)
  have HC := Lib.hid hc
  have HPK := Lib.hid hpk
  clear hn hc hpk
  go_enter Try.func7, Try.ntmps7
  go_wp2_with fail
  refine (awake8 _).mono ?_
  rintro e w1 ⟨rfl, hb1⟩
  have C1 := Bk.new w1 (ccM (cSc N M B)) 24
  have hw1 : Below w.heap.size w (w1.alloc (.cells (ccM (cSc N M B)) 24)) := hb1.alloc hb1.size _
  have sz1 := hb1.size
  have d1 : decide ((800 : Int) < (pk.length : Int)) = false := by simp; omega
  go_wp2_with (first | (rw [HNN.out]) | (rw [HMM.out]) | (rw [HBB.out]) | (refine wpList_load_row rfl 24 _ rfl (w1.heap.size) rfl _ (ccM (cSc N M B)) (0, 0) _ (by exact C1) Try.underlying24 rfl (by kernel_rfl) ?_))
  refine (HN.out _).mono ?_
  rintro e w2 ⟨g, gl, cp, rfl, M2, hb2⟩
  have g0 := M2.g0
  have gl0 := M2.gl0
  have lm2 := M2.lt
  rw [World.size_alloc] at g0 gl0
  have C2 := C1.keep hb2
  have hw2 := hw1.trans (hb2.mono (by rw [World.size_alloc]; omega))
  have lw2 := hw2.size
  have A4 := Bk.new w2 (wcs (List.replicate N wz)) 46
  have bA : Below w2.heap.size w2 (w2.alloc (.cells (wcs (List.replicate N wz)) 46)) := (Below.refl _ _).alloc (Nat.le_refl _) _
  have E4 : Kb w (cSc N M B) w1.heap.size g gl cp w2.heap.size a0 (firstL (cSc N M B)) (wcs (List.replicate N wz)) (w2.alloc (.cells (wcs (List.replicate N wz)) 46)) :=
    ⟨C2.keep bA, (M2.base (by rw [World.size_alloc]; omega)).keep bA, A4, hw2.trans (bA.mono lw2), sz1, by omega, by omega, by omega, by omega⟩
  obtain ⟨v3, hv3⟩ : ∃ u, u = w2.alloc (.cells (wcs (List.replicate N wz)) 46) := ⟨_, rfl⟩
  have sv3 : v3.heap.size = w2.heap.size + 1 := by rw [hv3, World.size_alloc]
  rw [← hv3] at E4
  have B5 := Bk.new v3 (nl (List.replicate N 0)) 3
  have b5 : Below v3.heap.size v3 (v3.alloc (.cells (nl (List.replicate N 0)) 3)) := (Below.refl _ _).alloc (Nat.le_refl _) _
  have E5 := E4.keep b5
  obtain ⟨v4, hv4⟩ : ∃ u, u = v3.alloc (.cells (nl (List.replicate N 0)) 3) := ⟨_, rfl⟩
  have sv4 : v4.heap.size = w2.heap.size + 2 := by rw [hv4, World.size_alloc, sv3]
  rw [← hv4] at B5 E5
  rw [sv3] at B5
  have B6 := Bk.new v4 (nl (List.replicate M 0)) 3
  have b6 : Below v4.heap.size v4 (v4.alloc (.cells (nl (List.replicate M 0)) 3)) := (Below.refl _ _).alloc (Nat.le_refl _) _
  have E6 := E5.keep b6
  have B56 := B5.keep b6
  obtain ⟨v5, hv5⟩ : ∃ u, u = v4.alloc (.cells (nl (List.replicate M 0)) 3) := ⟨_, rfl⟩
  have sv5 : v5.heap.size = w2.heap.size + 3 := by rw [hv5, World.size_alloc, sv4]
  rw [← hv5] at B6 E6 B56
  rw [sv4] at B6
  have B7 := Bk.new v5 (iv .u64 (List.replicate M 0)) 22
  have b7 : Below v5.heap.size v5 (v5.alloc (.cells (iv .u64 (List.replicate M 0)) 22)) := (Below.refl _ _).alloc (Nat.le_refl _) _
  have E7' := E6.keep b7
  have B567 := B56.keep b7
  have B67 := B6.keep b7
  obtain ⟨v6, hv6⟩ : ∃ u, u = v5.alloc (.cells (iv .u64 (List.replicate M 0)) 22) := ⟨_, rfl⟩
  rw [← hv6] at B7 E7' B567 B67
  rw [sv5] at B7
  have E4c : Cb w (cSc N M B) w1.heap.size g gl cp w2.heap.size a0 (firstL (cSc N M B)) (wcs (List.replicate N wz)) (List.replicate N 0) (List.replicate M 0) (List.replicate M 0) v6 := ⟨E7', B567, B67, B7⟩
  have c2 := C2.cells
  have c3 := E4.C.cells
  have c4 := E5.C.cells
  have c5 := E6.C.cells
  have HV3 := Lib.hid hv3
  have HV4 := Lib.hid hv4
  have HV5 := Lib.hid hv5
  have HV6 := Lib.hid hv6
  have HS3 := Lib.hid sv3
  have HS4 := Lib.hid sv4
  have HS5 := Lib.hid sv5
  generalize firstL (cSc N M B) = L5 at *
  clear bA A4 M2 hb2 hw1 hw2 C1 b5 b6 b7 B5 B6 B56 B67 B567 B7 E7' E4 E5 E6 hv3 hv4 hv5 hv6 sv3 sv4 sv5
  go_wp2_with (first | (refine make_works Try.underlying55 rfl _ _ rfl N rfl rfl (by omega) ?_; rw [← HV3.out]; clear HV3) | (refine make_row Try.underlying28 infoI (by decide) rfl _ _ rfl N rfl rfl (by omega) ?_; rw [← nl_zero, ← HV4.out, HS3.out]; clear HV4) | (refine make_row Try.underlying28 infoI (by decide) rfl _ _ rfl M rfl rfl (by omega) ?_; rw [← nl_zero, ← HV5.out, HS4.out]; clear HV5) | (refine make_row Try.underlying25 infoU (by decide) rfl _ _ rfl M rfl rfl (by omega) ?_; rw [← HV6.out, HS5.out]; clear HV6))
  generalize w2.heap.size = ga at *
  generalize w1.heap.size = gc at *
  clear c2 c3 c4 c5 C2 g0 gl0 lm2 sz1 lw2 HS3 HS4 HS5
  go_loopw [16] (fun ii wr => ∃ (k m : Nat), k + m = N ∧ ii = .int .i64 (k : Int) ∧ Cb w (cSc N M B) gc g gl cp ga a0 L5 (wcs (List.replicate k s33 ++ List.replicate m wz)) (List.replicate N 0) (List.replicate M 0) (List.replicate M 0) wr) (fun ii _ => N - (intOf ii).toNat)
  case atStart => exact ⟨0, N, by omega, rfl, E4c⟩
  case round =>
    clear E4c
    obtain ⟨k, m, hkm, rfl, E'⟩ := hrel
    cases m with
    | succ m =>
      have hkN : k < N := by omega
      have hd : decide (k < N) = true := by simp [hkN]
      have hsum : IntKind.i64.wrap ((k : Int) + 1) = (k : Int) + 1 := IntWalk.i64_in _ (by omega)
      have E2 := E'.setA (wcs (List.replicate (k + 1) s33 ++ List.replicate m wz))
      have hset := wcs_set (xs := List.replicate k s33 ++ List.replicate (m + 1) wz) (k := k) (by simp) s33
      rw [sm_fill] at hset
      have hrow : k * 33 + 33 ≤ (wcs (List.replicate k s33 ++ List.replicate (m + 1) wz)).size := by rw [wcs_size]; simp; omega
      obtain ⟨u2, hu2⟩ : ∃ u, u = wr.setRow ga (wcs (List.replicate (k + 1) s33 ++ List.replicate m wz)) := ⟨_, rfl⟩
      rw [← hu2] at E2
      have HKM := Lib.hid hkm
      have HU2 := Lib.hid hu2
      have HSET := Lib.hid hset
      have HROW := Lib.hid hrow
      have EA := E'.K.A
      clear hkm hu2 hset hrow E'
      go_wp2_with ((with_reducible refine Sub.wpList_store_sub rfl 46 _ _ rfl ga (k * 33) (wc s33) ?_ ?_ 46 (wcs (List.replicate k s33 ++ List.replicate (m + 1) wz)) (wcs (List.replicate (k + 1) s33 ++ List.replicate m wz)) ?_ ?_ ?_ ?_ ?_ ?_); exact rfl; exact rfl; exact EA; kernel_rfl; exact HROW.out; kernel_rfl; exact HSET.out; rw [← HU2.out]; clear HU2 EA)
      go_roundw
      case rel => exact ⟨k + 1, m, by have := HKM.out; omega, by go_num, E2⟩
      case measure => have := HKM.out; simp [intOf]; omega
    | zero =>
      obtain rfl : N = k := by omega
      rw [List.replicate_zero, List.append_nil] at E'
      have HST : ScI N M B 0 L5 ((List.replicate N s33).map (·.p)) (List.replicate N 0) (List.replicate M 0) (List.replicate M 0) := by rw [List.map_replicate]; exact HST0.out
      have HST := Lib.hid HST
      clear hkm HST0
      go_wp2
      go_loopw [17] (fun ii wr => ∃ (k : Nat) (L : List Int) (xs : List Wk) (F H : List Nat) (T : List Int) (a : Acc), ii = .int .i64 (k : Int) ∧ k ≤ pk.length ∧ ScI N M B k L (xs.map (·.p)) F H T ∧ (∀ s ∈ xs, Ems s) ∧ Cb w (cSc N M B) gc g gl cp ga a L (wcs xs) F H T wr) (fun ii _ => pk.length - (intOf ii).toNat)
      case atStart => exact ⟨0, L5, List.replicate N s33, List.replicate N 0, List.replicate M 0, List.replicate M 0, a0, rfl, by omega, HST.out, fun s hs => by rw [(List.mem_replicate.1 hs).2]; exact ems_z _, E'⟩
      case round =>
        clear E' HST
        obtain ⟨k, L, xs, F, H, T, a, rfl, hk, HI, HE, E'⟩ := hrel
        by_cases hlt : k < pk.length
        · have hdk : decide ((k : Int) < (pk.length : Int)) = true := by simp; omega
          have hcp := (E'.K.hb.cell (p := ⟨bp, op + k, none⟩) hbp).trans (HC.out k hlt)
          obtain ⟨pv, hpv⟩ : ∃ x, x = pk[k] := ⟨_, rfl⟩
          have hpr : 0 ≤ pv ∧ pv < 256 := by rw [hpv]; exact HPK.out _ (List.getElem_mem hlt)
          have HCK := Lib.hid (show w.cell? ⟨bp, op + k, none⟩ = some (.int .u8 pv) by rw [hpv]; exact HC.out k hlt)
          rw [← hpv] at hcp
          have lbp : bp < wr.heap.size := Nat.lt_of_lt_of_le hbp E'.K.hb.size
          have lgc : gc < wr.heap.size := E'.K.C.lt
          have cx := E'.K.C.cells
          have hN0 : ((N : Int) == 0) = false := by simp; omega
          obtain ⟨wn, hwn⟩ : ∃ m : Nat, (m : Int) = pv % (N : Int) := ⟨(pv % (N : Int)).toNat, by have := Int.emod_nonneg pv (show (N : Int) ≠ 0 by omega); omega⟩
          have hwN : wn < N := by have := Int.emod_lt_of_pos pv (show (0 : Int) < (N : Int) by omega); omega
          have HWT := Lib.hid hwn.symm
          have HWT2 := Lib.hid (show pv.tmod (N : Int) = (wn : Int) by rw [Int.tmod_eq_emod_of_nonneg hpr.1]; exact hwn.symm)
          have hxl : xs.length = N := by have := HI.nP; simpa using this
          clear hpv hwn
          go_wp2
          refine wp_region_grown (by kernel_rfl) (by kernel_rfl) ?_
          have hg := @gcell
          repeat (go_big_quiet_step (fail))
          refine wpQuiet_nil ?_
          rintro w7 ⟨⟨_, hb7⟩, rfl⟩
          clear hg
          have E7 := E'.keep hb7
          clear E' hcp cx lbp lgc hb7 hN0
          try rw [HWT2.out]
          try rw [HWT.out]
          have hx0 : wn < xs.length := by omega
          have HXL := Lib.hid hxl
          clear hxl
          obtain ⟨s0, hs0⟩ : ∃ s, s = xs[wn] := ⟨_, rfl⟩
          have hp0 : scP (xs.map (·.p)) wn = s0.p := by rw [scP_map _ _ hx0, hs0]
          have hE0 : Ems s0 := hs0 ▸ HE _ (List.getElem_mem hx0)
          have HEE := Lib.hid HE
          have HS0 := Lib.hid hs0
          have HP0 := Lib.hid hp0
          have HE0 := Lib.hid hE0
          have hsumk : IntKind.i64.wrap ((k : Int) + 1) = (k : Int) + 1 := IntWalk.i64_in _ (by omega)
          have hcp7 : w7.cell? ⟨bp, op + k, none⟩ = some (.int .u8 pv) := (E7.K.hb.cell (p := ⟨bp, op + k, none⟩) hbp).trans HCK.out
          have lbp7 : bp < w7.heap.size := Nat.lt_of_lt_of_le hbp E7.K.hb.size
          clear HE hs0 hp0 hE0
          have hz := HI.size hD
          have hg0 := HI.g
          obtain ⟨G0, hG0⟩ : ∃ G0, G0 = L.getD 0 0 := ⟨_, rfl⟩
          have hld : ldV L 0 = G0 := by rw [hG0]; exact sc_ld (i := 0) (by omega)
          have hwg : IntKind.u64.wrap (G0 + 1) = G0 + 1 := by rw [IntKind.wrap_u64]; omega
          have hst : stL L 0 (G0 + 1) = L.set 0 (G0 + 1) := by rw [show (0 : Int) = ((0 : Nat) : Int) from rfl]; exact stL_at (by omega) _
          have HB1 : RowKit.Hid (ScI N M B (k + 1) (L.set 0 (G0 + 1)) (xs.map (·.p)) F H T) := Lib.hid (by rw [hG0]; exact HI.bump hD (by omega))
          have HB0 : RowKit.Hid (ScI N M B (k + 1) L (xs.map (·.p)) F H T) := Lib.hid HI.weak
          have hm := hz.2
          have HLD := Lib.hid hld
          have HST1 := Lib.hid hst
          have HM0 := Lib.hid (show L.length ≤ 1000 by omega)
          clear HI hG0 hg0 hz hm hld hst
          go_upto_if 96 with fail
          go_cut [] from 77 to 283 (fun wx => ∃ (L1 : List Int) (a1 : Acc), RowKit.Hid (ScI N M B (k + 1) L1 (xs.map (·.p)) F H T) ∧ Cb w (cSc N M B) gc g gl cp ga a1 L1 (wcs xs) F H T wx)
          case first =>
            by_cases h200 : 200 < pv
            · have d200 : decide (200 < pv) = true := by simp [h200]
              go_wp2_with fail
              refine (peek_any E7.K.M HM0.out 0).mono ?_
              rintro e w8' ⟨rfl, rfl⟩
              rw [HLD.out]
              go_wp2_with fail
              refine (store_any E7.K.M HM0.out 0 (G0 + 1)).mono ?_
              rintro e w8 ⟨rfl, M8, T8⟩
              rw [HST1.out] at M8
              have E8 := E7.touch M8 T8
              clear E7 M8 T8 hcp7 lbp7
              go_wp2_with fail
              go_meet
              case rel => exact ⟨_, _, HB1, E8⟩
            · have d200 : decide (200 < pv) = false := by simp; omega
              go_wp2_with fail
              go_meet
              case rel => exact ⟨_, _, HB0, E7⟩
          case rest =>
            revert wc
            intro w8 hcut
            obtain ⟨L1, a1, HI1, E8⟩ := hcut
            clear E7 hcp7 lbp7 HB0 HB1 hwg HLD HST1 HM0
            have HRG := wcs_range E8.K.A hx0
            rw [← HS0.out] at HRG
            have hI := HI1.out
            have hll := hI.size hD
            have hq0 := hI.pr wn hwN
            rw [HP0.out] at hq0
            have HK := sc_pick (a := a1) hD (by omega) hI hwN HP0.out
            have hs := slabStepAny E8.K.M HWF.out (by omega) hI.wr s0 { zS with p := s0.p } (few_ek _) (HE0.out w8) hq0
            obtain ⟨r, hr⟩ : ∃ r, r = (slabLn (cSc N M B) a1 L1 s0.p).fin := ⟨_, rfl⟩
            rw [show ({ zS with p := s0.p } : St).p = s0.p from rfl, ← hr] at hs
            rw [← hr] at HK
            have HS := Lib.hid hs
            have hFl := hI.nF
            have hHl := hI.nH
            have hTl := hI.nT
            have hgb := hI.g
            obtain ⟨hok, hgr, hcase⟩ := HK
            clear hs hr hq0 hI HI1 HP0 HE0
            have hrow : wn * 33 + 33 ≤ (wcs xs).size := by rw [wcs_size]; omega
            have HROW := Lib.hid hrow
            clear hrow
            rcases hcase with hcase | hcase | hcase | hcase | hcase | hcase
            · as_aux_lemma =>
                obtain ⟨hwy, hsi⟩ := hcase
                go_wp2_with (first | (refine wpList_load_mid rfl 46 _ rfl ga (wn * 33) rfl (wc s0).toList _ (by exact HRG) Try.underlying46 rfl (by kernel_rfl) ?_))
                refine HS.out.mono ?_
                rintro e u9 ⟨s2, rfl, A9, M9, T9⟩
                obtain ⟨hem, hp2⟩ := Ems.of A9
                have E9 := E8.touch M9 T9
                have Z10 := Bk.new u9 (wc wz) 46
                have Y10 := boxed_bk u9 s2
                have bb10 := boxed_below u9 s2
                have E10 := E9.keep bb10
                have lga : ga + 3 < u9.heap.size := E9.T.lt
                obtain ⟨w10, hw10⟩ : ∃ u, u = (u9.alloc (.cells (wc wz) 46)).setRow u9.heap.size (wc s2) := ⟨_, rfl⟩
                rw [← hw10] at Y10 E10
                have HW10 := Lib.hid hw10
                clear hw10 bb10 A9 M9 T9 E9 HS E8 HRG
                have hcl : w10.cell? ⟨ga, wn * 33, none⟩ = some (.int .i64 s0.p.ln) := by
                  have := wcs_cell E10.K.A hx0 (j := 0) (by omega)
                  rw [← HS0.out] at this
                  exact this
                have hco : w10.cell? ⟨ga, wn * 33 + 4, none⟩ = some (.int .i64 s0.p.o3) := by
                  have := wcs_cell E10.K.A hx0 (j := 4) (by omega)
                  rw [← HS0.out] at this
                  exact this
                have E12 := E10.setA (wcs (xs.set wn s2))
                have EA := E10.K.A
                obtain ⟨w12, hw12⟩ : ∃ u, u = w10.setRow ga (wcs (xs.set wn s2)) := ⟨_, rfl⟩
                rw [← hw12] at E12
                have HW12 := Lib.hid hw12
                have hES : Ems s2 := hem
                have hEP : (s2).p = r.p := hp2
                have HES := Lib.hid hES
                have HEP := Lib.hid hEP
                have HSI := Lib.hid hsi
                clear hw12 E10 hES hEP
                clear hem hp2 hsi
                go_wp2_with (first | ((with_reducible refine wpList_alloc_wz rfl rfl ?_)) | (refine wpList_store_row rfl 46 _ _ rfl (u9.heap.size) (wc s2) rfl rfl _ _ (by exact Z10) (by kernel_rfl) (by kernel_rfl) (by kernel_rfl) ?_; rw [← HW10.out]; clear HW10 Z10) | (refine wpList_load_row rfl 46 _ rfl (u9.heap.size) rfl _ (wc s2) (0, 0) _ (by exact Y10) Try.underlying46 rfl (by kernel_rfl) ?_) | ((with_reducible refine Sub.wpList_store_sub rfl 46 _ _ rfl ga (wn * 33) (wc s2) ?_ ?_ 46 (wcs xs) (wcs (xs.set wn s2)) ?_ ?_ ?_ ?_ ?_ ?_); exact rfl; exact rfl; exact EA; kernel_rfl; exact HROW.out; kernel_rfl; exact wcs_set hx0 s2; rw [← HW12.out]; clear HW12 EA))
                go_roundw
                case rel => exact ⟨k + 1, r.L, xs.set wn s2, F, H, T, r.a, by go_num, by omega, by rw [List.map_set, HEP.out]; exact HSI.out, fun s hs => by
                    rcases List.mem_or_eq_of_mem_set hs with q | rfl
                    · exact HEE.out s q
                    · exact HES.out, E12⟩
                case measure => simp [intOf]; omega
            · as_aux_lemma =>
                obtain ⟨hwy, hl, hsi⟩ := hcase
                have t34 : (s0.p.ln == 34) = false := by simp [hl]
                have t33 : (s0.p.ln == 33) = true := by simp [hl]
                have t37 : (s0.p.ln == 37) = false := by simp [hl]
                have t30 : (s0.p.ln == 30) = false := by simp [hl]
                have t32 : (s0.p.ln == 32) = false := by simp [hl]
                clear hl
                obtain ⟨G1, hG1⟩ : ∃ G, G = L1.getD 0 0 := ⟨_, rfl⟩
                rw [← hG1] at hsi hgr hgb
                have hrl := hsi.size hD
                have hld : ldV r.L 0 = G1 := by rw [← hgr]; exact sc_ld (i := 0) (by omega)
                have HLD := Lib.hid hld
                have HRL := Lib.hid hrl
                clear hG1 hld hrl hgr
                go_wp2_with (first | (refine wpList_load_mid rfl 46 _ rfl ga (wn * 33) rfl (wc s0).toList _ (by exact HRG) Try.underlying46 rfl (by kernel_rfl) ?_))
                refine HS.out.mono ?_
                rintro e u9 ⟨s2, rfl, A9, M9, T9⟩
                obtain ⟨hem, hp2⟩ := Ems.of A9
                have E9 := E8.touch M9 T9
                have Z10 := Bk.new u9 (wc wz) 46
                have Y10 := boxed_bk u9 s2
                have bb10 := boxed_below u9 s2
                have E10 := E9.keep bb10
                have lga : ga + 3 < u9.heap.size := E9.T.lt
                obtain ⟨w10, hw10⟩ : ∃ u, u = (u9.alloc (.cells (wc wz) 46)).setRow u9.heap.size (wc s2) := ⟨_, rfl⟩
                rw [← hw10] at Y10 E10
                have HW10 := Lib.hid hw10
                clear hw10 bb10 A9 M9 T9 E9 HS E8 HRG
                have hcl : w10.cell? ⟨ga, wn * 33, none⟩ = some (.int .i64 s0.p.ln) := by
                  have := wcs_cell E10.K.A hx0 (j := 0) (by omega)
                  rw [← HS0.out] at this
                  exact this
                have hco : w10.cell? ⟨ga, wn * 33 + 4, none⟩ = some (.int .i64 s0.p.o3) := by
                  have := wcs_cell E10.K.A hx0 (j := 4) (by omega)
                  rw [← HS0.out] at this
                  exact this
                have HPK0 := Lib.hid (fun w' (M' : MemAt w.heap.size w' g (cSc N M B) r.a gl cp r.L) => HLD.out ▸ peek_any M' (by have := HRL.out; omega) 0)
                have M10 := E10.K.M
                obtain ⟨sf, hsf⟩ : ∃ t : Wk, t = ({ s2 with p := { s2.p with ln := 33, j := 0, ep := G1 } } : Wk) := ⟨_, rfl⟩
                have c0 : w10.cell? ⟨u9.heap.size, 0, none⟩ = some (.int .i64 s2.p.ln) := Y10.cells 0
                have c28 : w10.cell? ⟨u9.heap.size, 28, none⟩ = some (.int .i64 s2.p.j) := Y10.cells 28
                have c9 : w10.cell? ⟨u9.heap.size, 9, none⟩ = some (.int .u64 s2.p.ep) := Y10.cells 9
                have z10 := Y10.frozen
                have E11 := (((E10.far lga 0 (.int .i64 33)).far lga 28 (.int .i64 0)).far lga 9 (.int .u64 G1))
                have Y11 : Bk (((w10.setCell ⟨u9.heap.size, 0, none⟩ (.int .i64 33)).setCell ⟨u9.heap.size, 28, none⟩ (.int .i64 0)).setCell ⟨u9.heap.size, 9, none⟩ (.int .u64 G1)) u9.heap.size (wc sf) 46 := by rw [hsf]; exact (((Y10.setCell 0 (.int .i64 33)).setCell 28 (.int .i64 0)).setCell 9 (.int .u64 G1))
                obtain ⟨w11, hw11⟩ : ∃ u, u = (((w10.setCell ⟨u9.heap.size, 0, none⟩ (.int .i64 33)).setCell ⟨u9.heap.size, 28, none⟩ (.int .i64 0)).setCell ⟨u9.heap.size, 9, none⟩ (.int .u64 G1)) := ⟨_, rfl⟩
                rw [← hw11] at E11 Y11
                have HW11 := Lib.hid hw11
                clear hw11 E10 Y10
                have E12 := E11.setA (wcs (xs.set wn sf))
                have EA := E11.K.A
                obtain ⟨w12, hw12⟩ : ∃ u, u = w11.setRow ga (wcs (xs.set wn sf)) := ⟨_, rfl⟩
                rw [← hw12] at E12
                have HW12 := Lib.hid hw12
                have hES : Ems sf := by rw [hsf]; exact hem.plain _
                have hEP : (sf).p = ({ r.p with ln := 33, j := 0, ep := G1 } : Pl) := by rw [hsf, hp2]
                have HES := Lib.hid hES
                have HEP := Lib.hid hEP
                have HSI := Lib.hid hsi
                clear hw12 E11 hES hEP
                clear hem hp2 hsi hsf
                go_wp2_with (first | ((with_reducible refine wpList_alloc_wz rfl rfl ?_)) | (refine wpList_store_row rfl 46 _ _ rfl (u9.heap.size) (wc s2) rfl rfl _ _ (by exact Z10) (by kernel_rfl) (by kernel_rfl) (by kernel_rfl) ?_; rw [← HW10.out]; clear HW10 Z10))
                refine (HPK0.out _ M10).mono ?_
                rintro e w10' ⟨rfl, rfl⟩
                go_wp2_with (first | (rw [← HW11.out]; clear HW11 c0 c28 c9 z10 hcl hco M10) | (refine wpList_load_row rfl 46 _ rfl (u9.heap.size) rfl _ (wc sf) (0, 0) _ (by exact Y11) Try.underlying46 rfl (by kernel_rfl) ?_) | ((with_reducible refine Sub.wpList_store_sub rfl 46 _ _ rfl ga (wn * 33) (wc sf) ?_ ?_ 46 (wcs xs) (wcs (xs.set wn sf)) ?_ ?_ ?_ ?_ ?_ ?_); exact rfl; exact rfl; exact EA; kernel_rfl; exact HROW.out; kernel_rfl; exact wcs_set hx0 sf; rw [← HW12.out]; clear HW12 EA))
                go_roundw
                case rel => exact ⟨k + 1, r.L, xs.set wn sf, F, H, T, r.a, by go_num, by omega, by rw [List.map_set, HEP.out]; exact HSI.out, fun s hs => by
                    rcases List.mem_or_eq_of_mem_set hs with q | rfl
                    · exact HEE.out s q
                    · exact HES.out, E12⟩
                case measure => simp [intOf]; omega
            · as_aux_lemma =>
                obtain ⟨hwy, hl, j, hjM, hrj, hHj, hTj, hsi⟩ := hcase
                have t34 : (s0.p.ln == 34) = true := by simp [hl]
                have t33 : (s0.p.ln == 33) = false := by simp [hl]
                have t37 : (s0.p.ln == 37) = false := by simp [hl]
                have t30 : (s0.p.ln == 30) = false := by simp [hl]
                have t32 : (s0.p.ln == 32) = false := by simp [hl]
                clear hl
                go_wp2_with (first | (refine wpList_load_mid rfl 46 _ rfl ga (wn * 33) rfl (wc s0).toList _ (by exact HRG) Try.underlying46 rfl (by kernel_rfl) ?_))
                refine HS.out.mono ?_
                rintro e u9 ⟨s2, rfl, A9, M9, T9⟩
                obtain ⟨hem, hp2⟩ := Ems.of A9
                have E9 := E8.touch M9 T9
                have Z10 := Bk.new u9 (wc wz) 46
                have Y10 := boxed_bk u9 s2
                have bb10 := boxed_below u9 s2
                have E10 := E9.keep bb10
                have lga : ga + 3 < u9.heap.size := E9.T.lt
                obtain ⟨w10, hw10⟩ : ∃ u, u = (u9.alloc (.cells (wc wz) 46)).setRow u9.heap.size (wc s2) := ⟨_, rfl⟩
                rw [← hw10] at Y10 E10
                have HW10 := Lib.hid hw10
                clear hw10 bb10 A9 M9 T9 E9 HS E8 HRG
                have hcl : w10.cell? ⟨ga, wn * 33, none⟩ = some (.int .i64 s0.p.ln) := by
                  have := wcs_cell E10.K.A hx0 (j := 0) (by omega)
                  rw [← HS0.out] at this
                  exact this
                have hco : w10.cell? ⟨ga, wn * 33 + 4, none⟩ = some (.int .i64 s0.p.o3) := by
                  have := wcs_cell E10.K.A hx0 (j := 4) (by omega)
                  rw [← HS0.out] at this
                  exact this
                have cx := E10.K.C.cells
                have lgc : gc < w10.heap.size := E10.K.C.lt
                have lg1 : ga + 1 < w10.heap.size := E10.F.lt
                have lg2 : ga + 2 < w10.heap.size := E10.H.lt
                have lg3 : ga + 3 < w10.heap.size := E10.T.lt
                have lgy : u9.heap.size < w10.heap.size := Y10.lt
                have hjH : j < H.length := by omega
                have hjT : j < T.length := by omega
                have chj : w10.cell? ⟨ga + 2, j, none⟩ = some (.int .i64 0) := E10.h hjH hHj
                have fhj : w10.frozen? ⟨ga + 2, j, none⟩ = false := E10.H.frozen j
                obtain ⟨t, ht⟩ : ∃ t, T.getD j 0 = t := ⟨_, rfl⟩
                have ctj := E10.t hjT ht
                rw [ht] at hTj
                have c28 : w10.cell? ⟨u9.heap.size, 28, none⟩ = some (.int .i64 (j : Int)) := by rw [Y10.cells, show (wc s2)[28]? = some (.int .i64 s2.p.j) from rfl, hp2, hrj]
                have c9 : w10.cell? ⟨u9.heap.size, 9, none⟩ = some (.int .u64 r.p.ep) := by rw [Y10.cells, show (wc s2)[9]? = some (.int .u64 s2.p.ep) from rfl, hp2]
                have htb := (hsi.sl j hjM).2.2
                rw [ht] at htb
                have hsg := hsi.g
                have hw2 := two_more (t := t) (by omega)
                obtain ⟨ow, how⟩ : ∃ l : Nat, l = wn + 1 := ⟨_, rfl⟩
                rw [← how] at hsi
                obtain ⟨hwn1, hwn1i⟩ := inc_small (f := wn) (by omega) how
                clear how
                have dM : decide (M ≤ j) = false := by simp; omega
                have dM' : decide ((M : Int) ≤ (j : Int)) = false := by simp; omega
                have dj : decide ((j : Int) < 0) = false := by simp
                have hTj2 : t = 0 ∨ t + 2 ≤ r.p.ep := hTj
                clear htb hsg hTj
                go_wp2_with (first | ((with_reducible refine wpList_alloc_wz rfl rfl ?_)) | (refine wpList_store_row rfl 46 _ _ rfl (u9.heap.size) (wc s2) rfl rfl _ _ (by exact Z10) (by kernel_rfl) (by kernel_rfl) (by kernel_rfl) ?_; rw [← HW10.out]; clear HW10 Z10))
                by_cases hz : t = 0
                · rw [hz] at ctj
                  have htn : ((0 : Int) != 0) = false := by decide

                  refine wp_region_grown (by kernel_rfl) (by kernel_rfl) ?_
                  have hg := @gcell
                  repeat (go_big_quiet_step (fail))
                  refine wpQuiet_nil ?_
                  rintro w11 ⟨⟨_, hb11⟩, rfl⟩
                  clear hg
                  have E11 := E10.keep hb11
                  have Y11a := Y10.keep hb11
                  have chj1 : w11.cell? ⟨ga + 2, j, none⟩ = some (.int .i64 0) := E11.h hjH hHj
                  have fhj1 : w11.frozen? ⟨ga + 2, j, none⟩ = false := E11.H.frozen j
                  have lg21 : ga + 2 < w11.heap.size := E11.H.lt
                  clear E10 Y10 hb11 chj fhj ctj c28 c9 cx hcl hco lg1 lg2 lg3 lgc lgy
                  have E12a := E11.setH j ow
                  have Y12a := Y11a.setCell_far (a := ⟨ga + 2, j, none⟩) (by simp; omega) (.int .i64 (ow : Int))
                  obtain ⟨w12, hw12'⟩ : ∃ u, u = w11.setCell ⟨ga + 2, j, none⟩ (.int .i64 (ow : Int)) := ⟨_, rfl⟩
                  rw [← hw12'] at E12a Y12a
                  have HW12a := Lib.hid hw12'
                  have hwF : wn < F.length := by omega
                  clear hw12' E11 Y11a
                  go_wp2_with (first | (rw [← HW12a.out]; clear HW12a chj1 fhj1 lg21))
                  have Bd : Below w12.heap.size w12 w12.drew := Below.drew (Below.refl _ _)
                  have Ed := E12a.keep Bd
                  have Yd := Y12a.keep Bd
                  refine wp_region_held_drew (S := fun w' => w'.cell? ⟨gc, 2, none⟩ = some (.int .i64 (B : Int))) (by kernel_rfl) (Ed.K.C.cells 2) (fun hHeld => ?_)
                  generalize w12.drew = z0 at *
                  clear Bd E12a Y12a
                  refine wpAnyH_take (i := 0) (oi := _) (v := .slice (some ⟨ga + 1, 0, none⟩) N N) rfl (by kernel_rfl) (by kernel_rfl) (by kernel_rfl) (fun _ _ _ h => h) (Or.inl ⟨by rfl, fun w' hSw => by have x1 := hSw; go_simp⟩) hHeld ?_
                  try simp only [Act.put, List.getElem_toArray, List.getElem_cons_succ, List.getElem_cons_zero, List.setIfInBounds_toArray, List.set_cons_succ, List.set_cons_zero]
                  refine wpAnyH_take (i := 1) (oi := _) (v := .int .i64 (wn : Int)) rfl (by kernel_rfl) (by kernel_rfl) (by kernel_rfl) (fun _ _ _ h => h) (Or.inl ⟨by rfl, fun w' hSw => by have x1 := hSw; go_simp⟩) hHeld ?_
                  try simp only [Act.put, List.getElem_toArray, List.getElem_cons_succ, List.getElem_cons_zero, List.setIfInBounds_toArray, List.set_cons_succ, List.set_cons_zero]
                  refine wpAnyH_take (i := 2) (oi := _) (v := .int .i64 (j : Int)) rfl (by kernel_rfl) (by kernel_rfl) (by kernel_rfl) (fun _ _ _ h => h) (Or.inl ⟨by rfl, fun w' hSw => by have x1 := hSw; go_simp⟩) hHeld ?_
                  try simp only [Act.put, List.getElem_toArray, List.getElem_cons_succ, List.getElem_cons_zero, List.setIfInBounds_toArray, List.set_cons_succ, List.set_cons_zero]
                  refine wpAnyH_take (i := 3) (oi := _) (v := .pointer (some ⟨gc, 2, none⟩)) rfl (by kernel_rfl) (by kernel_rfl) (by kernel_rfl) (fun _ _ _ h => h) (Or.inl ⟨by rfl, fun w' hSw => by have x1 := hSw; go_simp⟩) hHeld ?_
                  try simp only [Act.put, List.getElem_toArray, List.getElem_cons_succ, List.getElem_cons_zero, List.setIfInBounds_toArray, List.set_cons_succ, List.set_cons_zero]
                  refine wpAnyH_take (i := 4) (oi := _) (v := .int .i64 (B : Int)) rfl (by kernel_rfl) (by kernel_rfl) (by kernel_rfl) (fun _ _ _ h => h) (Or.inl ⟨by rfl, fun w' hSw => by have x1 := hSw; go_simp⟩) hHeld ?_
                  try simp only [Act.put, List.getElem_toArray, List.getElem_cons_succ, List.getElem_cons_zero, List.setIfInBounds_toArray, List.set_cons_succ, List.set_cons_zero]
                  refine wpAnyH_take (i := 5) (oi := _) (v := .pointer (some ⟨u9.heap.size, 0, none⟩)) rfl (by kernel_rfl) (by kernel_rfl) (by kernel_rfl) (fun _ _ _ h => h) (Or.inl ⟨by rfl, fun w' hSw => by have x1 := hSw; go_simp⟩) hHeld ?_
                  try simp only [Act.put, List.getElem_toArray, List.getElem_cons_succ, List.getElem_cons_zero, List.setIfInBounds_toArray, List.set_cons_succ, List.set_cons_zero]
                  refine wpAnyH_ready (rs := [6]) (by kernel_rfl) (by simp) ?_
                  refine AllReadyH.cons (o := _) rfl (fun K hK => ?_) AllReadyH.nil
                  have q6 : z0.cell? ⟨u9.heap.size, 0, none⟩ = some (.int .i64 s2.p.ln) := Yd.cells 0
                  have qf6 : z0.frozen? ⟨u9.heap.size, 0, none⟩ = false := Yd.frozen 0
                  go_simp
                  have Ee := Ed.far lga 0 (.int .i64 36)
                  have Ye := Yd.setCell 0 (.int .i64 36)
                  refine hK.out _ _ (Ee.K.C.cells 2) (fun hHeld2 => ?_)
                  clear hK K q6 qf6 Ed Yd
                  obtain ⟨z1, hz1⟩ : ∃ u, u = z0.setCell ⟨u9.heap.size, 0, none⟩ (.int .i64 36) := ⟨_, rfl⟩
                  rw [← hz1] at Ee Ye hHeld2 ⊢
                  clear hz1
                  try simp only [Act.put, List.getElem_toArray, List.getElem_cons_succ, List.getElem_cons_zero, List.setIfInBounds_toArray, List.set_cons_succ, List.set_cons_zero]
                  refine wpAnyH_take (i := 7) (oi := _) (v := .pointer (some ⟨u9.heap.size, 1, none⟩)) rfl (by kernel_rfl) (by kernel_rfl) (by kernel_rfl) (fun _ _ _ h => h) (Or.inl ⟨by rfl, fun w' hSw => by go_simp⟩) hHeld2 ?_
                  try simp only [Act.put, List.getElem_toArray, List.getElem_cons_succ, List.getElem_cons_zero, List.setIfInBounds_toArray, List.set_cons_succ, List.set_cons_zero]
                  refine wpAnyH_take (i := 8) (oi := _) (v := .pointer (some ⟨u9.heap.size, 4, none⟩)) rfl (by kernel_rfl) (by kernel_rfl) (by kernel_rfl) (fun _ _ _ h => h) (Or.inl ⟨by rfl, fun w' hSw => by go_simp⟩) hHeld2 ?_
                  try simp only [Act.put, List.getElem_toArray, List.getElem_cons_succ, List.getElem_cons_zero, List.setIfInBounds_toArray, List.set_cons_succ, List.set_cons_zero]
                  refine wpAnyH_ready (rs := [9]) (by kernel_rfl) (by simp) ?_
                  refine AllReadyH.cons (o := _) rfl (fun K hK => ?_) AllReadyH.nil
                  have q9 : z1.cell? ⟨u9.heap.size, 4, none⟩ = some (.int .i64 s2.p.o3) := Ye.cells 4
                  have qf9 : z1.frozen? ⟨u9.heap.size, 4, none⟩ = false := Ye.frozen 4
                  go_simp
                  have Eg := Ee.far lga 4 (.int .i64 (j : Int))
                  have Yg := Ye.setCell 4 (.int .i64 (j : Int))
                  refine hK.out _ _ (Eg.K.C.cells 2) (fun hHeld3 => ?_)
                  clear hK K q9 qf9 Ee Ye
                  obtain ⟨z2, hz2⟩ : ∃ u, u = z1.setCell ⟨u9.heap.size, 4, none⟩ (.int .i64 (j : Int)) := ⟨_, rfl⟩
                  rw [← hz2] at Eg Yg hHeld3 ⊢
                  clear hz2
                  try simp only [Act.put, List.getElem_toArray, List.getElem_cons_succ, List.getElem_cons_zero, List.setIfInBounds_toArray, List.set_cons_succ, List.set_cons_zero]
                  refine wpAnyH_take (i := 10) (oi := _) (v := .pointer (some ⟨ga + 1, wn, none⟩)) rfl (by kernel_rfl) (by kernel_rfl) (by kernel_rfl) (fun _ _ _ h => h) (Or.inl ⟨by rfl, fun w' hSw => by go_simp⟩) hHeld3 ?_
                  try simp only [Act.put, List.getElem_toArray, List.getElem_cons_succ, List.getElem_cons_zero, List.setIfInBounds_toArray, List.set_cons_succ, List.set_cons_zero]
                  refine wpAnyH_ready (rs := [11]) (by kernel_rfl) (by simp) ?_
                  refine AllReadyH.cons (o := _) rfl (fun K hK => ?_) AllReadyH.nil
                  have q11 := Eg.f hwF rfl
                  have qf11 : z2.frozen? ⟨ga + 1, wn, none⟩ = false := Eg.F.frozen wn
                  go_simp
                  have Eh := Eg.setF wn B
                  have Yh := Yg.setCell_far (a := ⟨ga + 1, wn, none⟩) (by simp; omega) (.int .i64 (B : Int))
                  refine hK.out _ _ (Eh.K.C.cells 2) (fun hHeld4 => ?_)
                  clear hK K q11 qf11 Eg Yg
                  obtain ⟨z3, hz3⟩ : ∃ u, u = z2.setCell ⟨ga + 1, wn, none⟩ (.int .i64 (B : Int)) := ⟨_, rfl⟩
                  rw [← hz3] at Eh Yh hHeld4 ⊢
                  clear hz3
                  try simp only [Act.put, List.getElem_toArray, List.getElem_cons_succ, List.getElem_cons_zero, List.setIfInBounds_toArray, List.set_cons_succ, List.set_cons_zero]
                  refine wpAnyH_done (by kernel_rfl) ?_ _
                  clear hHeld hHeld2 hHeld3 hHeld4
                  obtain ⟨sf, hsf⟩ : ∃ t : Wk, t = ({ s2 with p := { s2.p with ln := 36, o3 := (j : Int) } } : Wk) := ⟨_, rfl⟩
                  have Y11 : Bk z3 u9.heap.size (wc sf) 46 := by rw [hsf]; exact Yh
                  clear Yh
                  have E12 := Eh.setA (wcs (xs.set wn sf))
                  have EA := Eh.K.A
                  obtain ⟨w13, hw13⟩ : ∃ u, u = z3.setRow ga (wcs (xs.set wn sf)) := ⟨_, rfl⟩
                  rw [← hw13] at E12
                  have HW12 := Lib.hid hw13
                  have hES : Ems sf := by rw [hsf]; exact hem.plain _
                  have hEP : (sf).p = ({ r.p with ln := 36, o3 := (j : Int) } : Pl) := by rw [hsf, hp2]
                  have HES := Lib.hid hES
                  have HEP := Lib.hid hEP
                  have HSI := Lib.hid hsi
                  clear hw13 Eh hES hEP
                  clear hem hp2 hsi hsf
                  go_wp2_with (first | (refine wpList_load_row rfl 46 _ rfl (u9.heap.size) rfl _ (wc sf) (0, 0) _ (by exact Y11) Try.underlying46 rfl (by kernel_rfl) ?_) | ((with_reducible refine Sub.wpList_store_sub rfl 46 _ _ rfl ga (wn * 33) (wc sf) ?_ ?_ 46 (wcs xs) (wcs (xs.set wn sf)) ?_ ?_ ?_ ?_ ?_ ?_); exact rfl; exact rfl; exact EA; kernel_rfl; exact HROW.out; kernel_rfl; exact wcs_set hx0 sf; rw [← HW12.out]; clear HW12 EA))
                  go_roundw
                  case rel => exact ⟨k + 1, r.L, xs.set wn sf, F.set wn B, H.set j ow, T, r.a, by go_num, by omega, by rw [List.map_set, HEP.out]; exact HSI.out, fun s hs => by
                      rcases List.mem_or_eq_of_mem_set hs with q | rfl
                      · exact HEE.out s q
                      · exact HES.out, E12⟩
                  case measure => simp [intOf]; omega
                · have htn : (t != 0) = true := by simp [hz]
                  have dep := late_no hTj2 hz

                  refine wp_region_grown (by kernel_rfl) (by kernel_rfl) ?_
                  have hg := @gcell
                  repeat (go_big_quiet_step (fail))
                  refine wpQuiet_nil ?_
                  rintro w11 ⟨⟨_, hb11⟩, rfl⟩
                  clear hg
                  have E11 := E10.keep hb11
                  have Y11a := Y10.keep hb11
                  have chj1 : w11.cell? ⟨ga + 2, j, none⟩ = some (.int .i64 0) := E11.h hjH hHj
                  have fhj1 : w11.frozen? ⟨ga + 2, j, none⟩ = false := E11.H.frozen j
                  have lg21 : ga + 2 < w11.heap.size := E11.H.lt
                  clear E10 Y10 hb11 chj fhj ctj c28 c9 cx hcl hco lg1 lg2 lg3 lgc lgy
                  have E12a := E11.setH j ow
                  have Y12a := Y11a.setCell_far (a := ⟨ga + 2, j, none⟩) (by simp; omega) (.int .i64 (ow : Int))
                  obtain ⟨w12, hw12'⟩ : ∃ u, u = w11.setCell ⟨ga + 2, j, none⟩ (.int .i64 (ow : Int)) := ⟨_, rfl⟩
                  rw [← hw12'] at E12a Y12a
                  have HW12a := Lib.hid hw12'
                  have hwF : wn < F.length := by omega
                  clear hw12' E11 Y11a
                  go_wp2_with (first | (rw [← HW12a.out]; clear HW12a chj1 fhj1 lg21))
                  have Bd : Below w12.heap.size w12 w12.drew := Below.drew (Below.refl _ _)
                  have Ed := E12a.keep Bd
                  have Yd := Y12a.keep Bd
                  refine wp_region_held_drew (S := fun w' => w'.cell? ⟨gc, 2, none⟩ = some (.int .i64 (B : Int))) (by kernel_rfl) (Ed.K.C.cells 2) (fun hHeld => ?_)
                  generalize w12.drew = z0 at *
                  clear Bd E12a Y12a
                  refine wpAnyH_take (i := 0) (oi := _) (v := .slice (some ⟨ga + 1, 0, none⟩) N N) rfl (by kernel_rfl) (by kernel_rfl) (by kernel_rfl) (fun _ _ _ h => h) (Or.inl ⟨by rfl, fun w' hSw => by have x1 := hSw; go_simp⟩) hHeld ?_
                  try simp only [Act.put, List.getElem_toArray, List.getElem_cons_succ, List.getElem_cons_zero, List.setIfInBounds_toArray, List.set_cons_succ, List.set_cons_zero]
                  refine wpAnyH_take (i := 1) (oi := _) (v := .int .i64 (wn : Int)) rfl (by kernel_rfl) (by kernel_rfl) (by kernel_rfl) (fun _ _ _ h => h) (Or.inl ⟨by rfl, fun w' hSw => by have x1 := hSw; go_simp⟩) hHeld ?_
                  try simp only [Act.put, List.getElem_toArray, List.getElem_cons_succ, List.getElem_cons_zero, List.setIfInBounds_toArray, List.set_cons_succ, List.set_cons_zero]
                  refine wpAnyH_take (i := 2) (oi := _) (v := .int .i64 (j : Int)) rfl (by kernel_rfl) (by kernel_rfl) (by kernel_rfl) (fun _ _ _ h => h) (Or.inl ⟨by rfl, fun w' hSw => by have x1 := hSw; go_simp⟩) hHeld ?_
                  try simp only [Act.put, List.getElem_toArray, List.getElem_cons_succ, List.getElem_cons_zero, List.setIfInBounds_toArray, List.set_cons_succ, List.set_cons_zero]
                  refine wpAnyH_take (i := 3) (oi := _) (v := .pointer (some ⟨gc, 2, none⟩)) rfl (by kernel_rfl) (by kernel_rfl) (by kernel_rfl) (fun _ _ _ h => h) (Or.inl ⟨by rfl, fun w' hSw => by have x1 := hSw; go_simp⟩) hHeld ?_
                  try simp only [Act.put, List.getElem_toArray, List.getElem_cons_succ, List.getElem_cons_zero, List.setIfInBounds_toArray, List.set_cons_succ, List.set_cons_zero]
                  refine wpAnyH_take (i := 4) (oi := _) (v := .int .i64 (B : Int)) rfl (by kernel_rfl) (by kernel_rfl) (by kernel_rfl) (fun _ _ _ h => h) (Or.inl ⟨by rfl, fun w' hSw => by have x1 := hSw; go_simp⟩) hHeld ?_
                  try simp only [Act.put, List.getElem_toArray, List.getElem_cons_succ, List.getElem_cons_zero, List.setIfInBounds_toArray, List.set_cons_succ, List.set_cons_zero]
                  refine wpAnyH_take (i := 5) (oi := _) (v := .pointer (some ⟨u9.heap.size, 0, none⟩)) rfl (by kernel_rfl) (by kernel_rfl) (by kernel_rfl) (fun _ _ _ h => h) (Or.inl ⟨by rfl, fun w' hSw => by have x1 := hSw; go_simp⟩) hHeld ?_
                  try simp only [Act.put, List.getElem_toArray, List.getElem_cons_succ, List.getElem_cons_zero, List.setIfInBounds_toArray, List.set_cons_succ, List.set_cons_zero]
                  refine wpAnyH_ready (rs := [6]) (by kernel_rfl) (by simp) ?_
                  refine AllReadyH.cons (o := _) rfl (fun K hK => ?_) AllReadyH.nil
                  have q6 : z0.cell? ⟨u9.heap.size, 0, none⟩ = some (.int .i64 s2.p.ln) := Yd.cells 0
                  have qf6 : z0.frozen? ⟨u9.heap.size, 0, none⟩ = false := Yd.frozen 0
                  go_simp
                  have Ee := Ed.far lga 0 (.int .i64 36)
                  have Ye := Yd.setCell 0 (.int .i64 36)
                  refine hK.out _ _ (Ee.K.C.cells 2) (fun hHeld2 => ?_)
                  clear hK K q6 qf6 Ed Yd
                  obtain ⟨z1, hz1⟩ : ∃ u, u = z0.setCell ⟨u9.heap.size, 0, none⟩ (.int .i64 36) := ⟨_, rfl⟩
                  rw [← hz1] at Ee Ye hHeld2 ⊢
                  clear hz1
                  try simp only [Act.put, List.getElem_toArray, List.getElem_cons_succ, List.getElem_cons_zero, List.setIfInBounds_toArray, List.set_cons_succ, List.set_cons_zero]
                  refine wpAnyH_take (i := 7) (oi := _) (v := .pointer (some ⟨u9.heap.size, 1, none⟩)) rfl (by kernel_rfl) (by kernel_rfl) (by kernel_rfl) (fun _ _ _ h => h) (Or.inl ⟨by rfl, fun w' hSw => by go_simp⟩) hHeld2 ?_
                  try simp only [Act.put, List.getElem_toArray, List.getElem_cons_succ, List.getElem_cons_zero, List.setIfInBounds_toArray, List.set_cons_succ, List.set_cons_zero]
                  refine wpAnyH_take (i := 8) (oi := _) (v := .pointer (some ⟨u9.heap.size, 4, none⟩)) rfl (by kernel_rfl) (by kernel_rfl) (by kernel_rfl) (fun _ _ _ h => h) (Or.inl ⟨by rfl, fun w' hSw => by go_simp⟩) hHeld2 ?_
                  try simp only [Act.put, List.getElem_toArray, List.getElem_cons_succ, List.getElem_cons_zero, List.setIfInBounds_toArray, List.set_cons_succ, List.set_cons_zero]
                  refine wpAnyH_ready (rs := [9]) (by kernel_rfl) (by simp) ?_
                  refine AllReadyH.cons (o := _) rfl (fun K hK => ?_) AllReadyH.nil
                  have q9 : z1.cell? ⟨u9.heap.size, 4, none⟩ = some (.int .i64 s2.p.o3) := Ye.cells 4
                  have qf9 : z1.frozen? ⟨u9.heap.size, 4, none⟩ = false := Ye.frozen 4
                  go_simp
                  have Eg := Ee.far lga 4 (.int .i64 (j : Int))
                  have Yg := Ye.setCell 4 (.int .i64 (j : Int))
                  refine hK.out _ _ (Eg.K.C.cells 2) (fun hHeld3 => ?_)
                  clear hK K q9 qf9 Ee Ye
                  obtain ⟨z2, hz2⟩ : ∃ u, u = z1.setCell ⟨u9.heap.size, 4, none⟩ (.int .i64 (j : Int)) := ⟨_, rfl⟩
                  rw [← hz2] at Eg Yg hHeld3 ⊢
                  clear hz2
                  try simp only [Act.put, List.getElem_toArray, List.getElem_cons_succ, List.getElem_cons_zero, List.setIfInBounds_toArray, List.set_cons_succ, List.set_cons_zero]
                  refine wpAnyH_take (i := 10) (oi := _) (v := .pointer (some ⟨ga + 1, wn, none⟩)) rfl (by kernel_rfl) (by kernel_rfl) (by kernel_rfl) (fun _ _ _ h => h) (Or.inl ⟨by rfl, fun w' hSw => by go_simp⟩) hHeld3 ?_
                  try simp only [Act.put, List.getElem_toArray, List.getElem_cons_succ, List.getElem_cons_zero, List.setIfInBounds_toArray, List.set_cons_succ, List.set_cons_zero]
                  refine wpAnyH_ready (rs := [11]) (by kernel_rfl) (by simp) ?_
                  refine AllReadyH.cons (o := _) rfl (fun K hK => ?_) AllReadyH.nil
                  have q11 := Eg.f hwF rfl
                  have qf11 : z2.frozen? ⟨ga + 1, wn, none⟩ = false := Eg.F.frozen wn
                  go_simp
                  have Eh := Eg.setF wn B
                  have Yh := Yg.setCell_far (a := ⟨ga + 1, wn, none⟩) (by simp; omega) (.int .i64 (B : Int))
                  refine hK.out _ _ (Eh.K.C.cells 2) (fun hHeld4 => ?_)
                  clear hK K q11 qf11 Eg Yg
                  obtain ⟨z3, hz3⟩ : ∃ u, u = z2.setCell ⟨ga + 1, wn, none⟩ (.int .i64 (B : Int)) := ⟨_, rfl⟩
                  rw [← hz3] at Eh Yh hHeld4 ⊢
                  clear hz3
                  try simp only [Act.put, List.getElem_toArray, List.getElem_cons_succ, List.getElem_cons_zero, List.setIfInBounds_toArray, List.set_cons_succ, List.set_cons_zero]
                  refine wpAnyH_done (by kernel_rfl) ?_ _
                  clear hHeld hHeld2 hHeld3 hHeld4
                  obtain ⟨sf, hsf⟩ : ∃ t : Wk, t = ({ s2 with p := { s2.p with ln := 36, o3 := (j : Int) } } : Wk) := ⟨_, rfl⟩
                  have Y11 : Bk z3 u9.heap.size (wc sf) 46 := by rw [hsf]; exact Yh
                  clear Yh
                  have E12 := Eh.setA (wcs (xs.set wn sf))
                  have EA := Eh.K.A
                  obtain ⟨w13, hw13⟩ : ∃ u, u = z3.setRow ga (wcs (xs.set wn sf)) := ⟨_, rfl⟩
                  rw [← hw13] at E12
                  have HW12 := Lib.hid hw13
                  have hES : Ems sf := by rw [hsf]; exact hem.plain _
                  have hEP : (sf).p = ({ r.p with ln := 36, o3 := (j : Int) } : Pl) := by rw [hsf, hp2]
                  have HES := Lib.hid hES
                  have HEP := Lib.hid hEP
                  have HSI := Lib.hid hsi
                  clear hw13 Eh hES hEP
                  clear hem hp2 hsi hsf
                  go_wp2_with (first | (refine wpList_load_row rfl 46 _ rfl (u9.heap.size) rfl _ (wc sf) (0, 0) _ (by exact Y11) Try.underlying46 rfl (by kernel_rfl) ?_) | ((with_reducible refine Sub.wpList_store_sub rfl 46 _ _ rfl ga (wn * 33) (wc sf) ?_ ?_ 46 (wcs xs) (wcs (xs.set wn sf)) ?_ ?_ ?_ ?_ ?_ ?_); exact rfl; exact rfl; exact EA; kernel_rfl; exact HROW.out; kernel_rfl; exact wcs_set hx0 sf; rw [← HW12.out]; clear HW12 EA))
                  go_roundw
                  case rel => exact ⟨k + 1, r.L, xs.set wn sf, F.set wn B, H.set j ow, T, r.a, by go_num, by omega, by rw [List.map_set, HEP.out]; exact HSI.out, fun s hs => by
                      rcases List.mem_or_eq_of_mem_set hs with q | rfl
                      · exact HEE.out s q
                      · exact HES.out, E12⟩
                  case measure => simp [intOf]; omega
            · as_aux_lemma =>
                obtain ⟨hwy, hl, j, hjM, hro, hFw, hsi⟩ := hcase
                have t34 : (s0.p.ln == 34) = false := by simp [hl]
                have t33 : (s0.p.ln == 33) = false := by simp [hl]
                have t37 : (s0.p.ln == 37) = true := by simp [hl]
                have t30 : (s0.p.ln == 30) = false := by simp [hl]
                have t32 : (s0.p.ln == 32) = false := by simp [hl]
                clear hl
                go_wp2_with (first | (refine wpList_load_mid rfl 46 _ rfl ga (wn * 33) rfl (wc s0).toList _ (by exact HRG) Try.underlying46 rfl (by kernel_rfl) ?_))
                refine HS.out.mono ?_
                rintro e u9 ⟨s2, rfl, A9, M9, T9⟩
                obtain ⟨hem, hp2⟩ := Ems.of A9
                have E9 := E8.touch M9 T9
                have Z10 := Bk.new u9 (wc wz) 46
                have Y10 := boxed_bk u9 s2
                have bb10 := boxed_below u9 s2
                have E10 := E9.keep bb10
                have lga : ga + 3 < u9.heap.size := E9.T.lt
                obtain ⟨w10, hw10⟩ : ∃ u, u = (u9.alloc (.cells (wc wz) 46)).setRow u9.heap.size (wc s2) := ⟨_, rfl⟩
                rw [← hw10] at Y10 E10
                have HW10 := Lib.hid hw10
                clear hw10 bb10 A9 M9 T9 E9 HS E8 HRG
                have hcl : w10.cell? ⟨ga, wn * 33, none⟩ = some (.int .i64 s0.p.ln) := by
                  have := wcs_cell E10.K.A hx0 (j := 0) (by omega)
                  rw [← HS0.out] at this
                  exact this
                have hco : w10.cell? ⟨ga, wn * 33 + 4, none⟩ = some (.int .i64 s0.p.o3) := by
                  have := wcs_cell E10.K.A hx0 (j := 4) (by omega)
                  rw [← HS0.out] at this
                  exact this
                have cx := E10.K.C.cells
                have lgc : gc < w10.heap.size := E10.K.C.lt
                have lg1 : ga + 1 < w10.heap.size := E10.F.lt
                have lg2 : ga + 2 < w10.heap.size := E10.H.lt
                have lg3 : ga + 3 < w10.heap.size := E10.T.lt
                have lgy : u9.heap.size < w10.heap.size := Y10.lt
                have hwF : wn < F.length := by omega
                have cfw := E10.f hwF hFw
                have ffw : w10.frozen? ⟨ga + 1, wn, none⟩ = false := E10.F.frozen wn
                obtain ⟨⟨hmi, hmw⟩, hmi2, hmw2⟩ := mul_small (j := j) (f := B) hM8 hB8 hjM (Nat.le_refl _)
                go_wp2_with (first | ((with_reducible refine wpList_alloc_wz rfl rfl ?_)) | (refine wpList_store_row rfl 46 _ _ rfl (u9.heap.size) (wc s2) rfl rfl _ _ (by exact Z10) (by kernel_rfl) (by kernel_rfl) (by kernel_rfl) ?_; rw [← HW10.out]; clear HW10 Z10))
                clear cx cfw ffw hcl hco lg1 lg2 lg3 lgc lgy
                have Bd : Below w10.heap.size w10 w10.drew := Below.drew (Below.refl _ _)
                have Ed := E10.keep Bd
                have Yd := Y10.keep Bd
                refine wp_region_held_drew (S := fun w' => w'.cell? ⟨gc, 2, none⟩ = some (.int .i64 (B : Int)) ∧ w'.cell? ⟨ga + 1, wn, none⟩ = some (.int .i64 ((B : Nat) : Int))) (by kernel_rfl) ⟨Ed.K.C.cells 2, Ed.f hwF hFw⟩ (fun hHeld => ?_)
                generalize w10.drew = z0 at *
                clear Bd E10 Y10
                refine wpAnyH_take (i := 0) (oi := _) (v := .int .i64 (j : Int)) rfl (by kernel_rfl) (by kernel_rfl) (by kernel_rfl) (fun _ _ _ h => h) (Or.inl ⟨by rfl, fun w' hSw => by have x1 := hSw.1; have x2 := hSw.2; go_simp⟩) hHeld ?_
                try simp only [Act.put, List.getElem_toArray, List.getElem_cons_succ, List.getElem_cons_zero, List.setIfInBounds_toArray, List.set_cons_succ, List.set_cons_zero]
                refine wpAnyH_take (i := 1) (oi := _) (v := .pointer (some ⟨gc, 2, none⟩)) rfl (by kernel_rfl) (by kernel_rfl) (by kernel_rfl) (fun _ _ _ h => h) (Or.inl ⟨by rfl, fun w' hSw => by have x1 := hSw.1; have x2 := hSw.2; go_simp⟩) hHeld ?_
                try simp only [Act.put, List.getElem_toArray, List.getElem_cons_succ, List.getElem_cons_zero, List.setIfInBounds_toArray, List.set_cons_succ, List.set_cons_zero]
                refine wpAnyH_take (i := 2) (oi := _) (v := .int .i64 (B : Int)) rfl (by kernel_rfl) (by kernel_rfl) (by kernel_rfl) (fun _ _ _ h => h) (Or.inl ⟨by rfl, fun w' hSw => by have x1 := hSw.1; have x2 := hSw.2; go_simp⟩) hHeld ?_
                try simp only [Act.put, List.getElem_toArray, List.getElem_cons_succ, List.getElem_cons_zero, List.setIfInBounds_toArray, List.set_cons_succ, List.set_cons_zero]
                refine wpAnyH_take (i := 3) (oi := _) (v := .int .i64 ((j : Int) * B)) rfl (by kernel_rfl) (by kernel_rfl) (by kernel_rfl) (fun _ _ _ h => h) (Or.inl ⟨by rfl, fun w' hSw => by have x1 := hSw.1; have x2 := hSw.2; go_simp⟩) hHeld ?_
                try simp only [Act.put, List.getElem_toArray, List.getElem_cons_succ, List.getElem_cons_zero, List.setIfInBounds_toArray, List.set_cons_succ, List.set_cons_zero]
                refine wpAnyH_take (i := 4) (oi := _) (v := .slice (some ⟨ga + 1, 0, none⟩) N N) rfl (by kernel_rfl) (by kernel_rfl) (by kernel_rfl) (fun _ _ _ h => h) (Or.inl ⟨by rfl, fun w' hSw => by have x1 := hSw.1; have x2 := hSw.2; go_simp⟩) hHeld ?_
                try simp only [Act.put, List.getElem_toArray, List.getElem_cons_succ, List.getElem_cons_zero, List.setIfInBounds_toArray, List.set_cons_succ, List.set_cons_zero]
                refine wpAnyH_take (i := 5) (oi := _) (v := .int .i64 (wn : Int)) rfl (by kernel_rfl) (by kernel_rfl) (by kernel_rfl) (fun _ _ _ h => h) (Or.inl ⟨by rfl, fun w' hSw => by have x1 := hSw.1; have x2 := hSw.2; go_simp⟩) hHeld ?_
                try simp only [Act.put, List.getElem_toArray, List.getElem_cons_succ, List.getElem_cons_zero, List.setIfInBounds_toArray, List.set_cons_succ, List.set_cons_zero]
                refine wpAnyH_take (i := 6) (oi := _) (v := .pointer (some ⟨ga + 1, wn, none⟩)) rfl (by kernel_rfl) (by kernel_rfl) (by kernel_rfl) (fun _ _ _ h => h) (Or.inl ⟨by rfl, fun w' hSw => by have x1 := hSw.1; have x2 := hSw.2; go_simp⟩) hHeld ?_
                try simp only [Act.put, List.getElem_toArray, List.getElem_cons_succ, List.getElem_cons_zero, List.setIfInBounds_toArray, List.set_cons_succ, List.set_cons_zero]
                refine wpAnyH_take (i := 7) (oi := _) (v := .int .i64 ((B : Nat) : Int)) rfl (by kernel_rfl) (by kernel_rfl) (by kernel_rfl) (fun _ _ _ h => h) (Or.inl ⟨by rfl, fun w' hSw => by have x1 := hSw.1; have x2 := hSw.2; go_simp⟩) hHeld ?_
                try simp only [Act.put, List.getElem_toArray, List.getElem_cons_succ, List.getElem_cons_zero, List.setIfInBounds_toArray, List.set_cons_succ, List.set_cons_zero]
                refine wpAnyH_take (i := 8) (oi := _) (v := .int .i64 ((j : Int) * B + (B : Nat))) rfl (by kernel_rfl) (by kernel_rfl) (by kernel_rfl) (fun _ _ _ h => h) (Or.inl ⟨by rfl, fun w' hSw => by have x1 := hSw.1; have x2 := hSw.2; go_simp⟩) hHeld ?_
                try simp only [Act.put, List.getElem_toArray, List.getElem_cons_succ, List.getElem_cons_zero, List.setIfInBounds_toArray, List.set_cons_succ, List.set_cons_zero]
                refine wpAnyH_take (i := 9) (oi := _) (v := .pointer (some ⟨u9.heap.size, 0, none⟩)) rfl (by kernel_rfl) (by kernel_rfl) (by kernel_rfl) (fun _ _ _ h => h) (Or.inl ⟨by rfl, fun w' hSw => by have x1 := hSw.1; have x2 := hSw.2; go_simp⟩) hHeld ?_
                try simp only [Act.put, List.getElem_toArray, List.getElem_cons_succ, List.getElem_cons_zero, List.setIfInBounds_toArray, List.set_cons_succ, List.set_cons_zero]
                refine wpAnyH_ready (rs := [10]) (by kernel_rfl) (by simp) ?_
                refine AllReadyH.cons (o := _) rfl (fun K hK => ?_) AllReadyH.nil
                have q10 : z0.cell? ⟨u9.heap.size, 0, none⟩ = some (.int .i64 s2.p.ln) := Yd.cells 0
                have qf10 : z0.frozen? ⟨u9.heap.size, 0, none⟩ = false := Yd.frozen 0
                go_simp
                have Ee := Ed.far lga 0 (.int .i64 30)
                have Ye := Yd.setCell 0 (.int .i64 30)
                refine hK.out _ _ (⟨Ee.K.C.cells 2, Ee.f hwF hFw⟩) (fun hHeld2 => ?_)
                clear hK K q10 qf10 Ed Yd
                obtain ⟨z1, hz1⟩ : ∃ u, u = z0.setCell ⟨u9.heap.size, 0, none⟩ (.int .i64 30) := ⟨_, rfl⟩
                rw [← hz1] at Ee Ye hHeld2 ⊢
                clear hz1
                try simp only [Act.put, List.getElem_toArray, List.getElem_cons_succ, List.getElem_cons_zero, List.setIfInBounds_toArray, List.set_cons_succ, List.set_cons_zero]
                refine wpAnyH_take (i := 11) (oi := _) (v := .pointer (some ⟨u9.heap.size, 19, none⟩)) rfl (by kernel_rfl) (by kernel_rfl) (by kernel_rfl) (fun _ _ _ h => h) (Or.inl ⟨by rfl, fun w' hSw => by go_simp⟩) hHeld2 ?_
                try simp only [Act.put, List.getElem_toArray, List.getElem_cons_succ, List.getElem_cons_zero, List.setIfInBounds_toArray, List.set_cons_succ, List.set_cons_zero]
                refine wpAnyH_ready (rs := [12]) (by kernel_rfl) (by simp) ?_
                refine AllReadyH.cons (o := _) rfl (fun K hK => ?_) AllReadyH.nil
                have q12 : z1.cell? ⟨u9.heap.size, 19, none⟩ = some (.int .i64 s2.p.k) := Ye.cells 19
                have qf12 : z1.frozen? ⟨u9.heap.size, 19, none⟩ = false := Ye.frozen 19
                go_simp
                have Eg := Ee.far lga 19 (.int .i64 ((j : Int) * B + (B : Nat)))
                have Yg := Ye.setCell 19 (.int .i64 ((j : Int) * B + (B : Nat)))
                refine hK.out _ _ (⟨Eg.K.C.cells 2, Eg.f hwF hFw⟩) (fun hHeld3 => ?_)
                clear hK K q12 qf12 Ee Ye
                obtain ⟨z2, hz2⟩ : ∃ u, u = z1.setCell ⟨u9.heap.size, 19, none⟩ (.int .i64 ((j : Int) * B + (B : Nat))) := ⟨_, rfl⟩
                rw [← hz2] at Eg Yg hHeld3 ⊢
                clear hz2
                try simp only [Act.put, List.getElem_toArray, List.getElem_cons_succ, List.getElem_cons_zero, List.setIfInBounds_toArray, List.set_cons_succ, List.set_cons_zero]
                refine wpAnyH_done (by kernel_rfl) ?_ _
                clear hHeld hHeld2 hHeld3
                obtain ⟨sf, hsf⟩ : ∃ t : Wk, t = ({ s2 with p := { s2.p with ln := 30, k := (j : Int) * B + (B : Nat) } } : Wk) := ⟨_, rfl⟩
                have Y11 : Bk z2 u9.heap.size (wc sf) 46 := by rw [hsf]; exact Yg
                clear Yg
                have E12 := Eg.setA (wcs (xs.set wn sf))
                have EA := Eg.K.A
                obtain ⟨w12, hw12⟩ : ∃ u, u = z2.setRow ga (wcs (xs.set wn sf)) := ⟨_, rfl⟩
                rw [← hw12] at E12
                have HW12 := Lib.hid hw12
                have hES : Ems sf := by rw [hsf]; exact hem.plain _
                have hEP : (sf).p = ({ r.p with ln := 30, k := (j : Int) * B + (B : Nat) } : Pl) := by rw [hsf, hp2]
                have HES := Lib.hid hES
                have HEP := Lib.hid hEP
                have HSI := Lib.hid hsi
                clear hw12 Eg hES hEP
                clear hem hp2 hsi hsf
                go_wp2_with (first | (refine wpList_load_row rfl 46 _ rfl (u9.heap.size) rfl _ (wc sf) (0, 0) _ (by exact Y11) Try.underlying46 rfl (by kernel_rfl) ?_) | ((with_reducible refine Sub.wpList_store_sub rfl 46 _ _ rfl ga (wn * 33) (wc sf) ?_ ?_ 46 (wcs xs) (wcs (xs.set wn sf)) ?_ ?_ ?_ ?_ ?_ ?_); exact rfl; exact rfl; exact EA; kernel_rfl; exact HROW.out; kernel_rfl; exact wcs_set hx0 sf; rw [← HW12.out]; clear HW12 EA))
                go_roundw
                case rel => exact ⟨k + 1, r.L, xs.set wn sf, F, H, T, r.a, by go_num, by omega, by rw [List.map_set, HEP.out]; exact HSI.out, fun s hs => by
                    rcases List.mem_or_eq_of_mem_set hs with q | rfl
                    · exact HEE.out s q
                    · exact HES.out, E12⟩
                case measure => simp [intOf]; omega
            · as_aux_lemma =>
                obtain ⟨hwy, hl, j, f, hjM, hro, hFw, hf1, hfB, hsi⟩ := hcase
                obtain ⟨lv, hlv⟩ : ∃ l : Nat, l = f + 1 := ⟨_, rfl⟩
                rw [← hlv] at hFw
                have t34 : (s0.p.ln == 34) = false := by simp [hl]
                have t33 : (s0.p.ln == 33) = false := by simp [hl]
                have t37 : (s0.p.ln == 37) = false := by simp [hl]
                have t30 : (s0.p.ln == 30) = true := by simp [hl]
                have t32 : (s0.p.ln == 32) = false := by simp [hl]
                clear hl
                go_wp2_with (first | (refine wpList_load_mid rfl 46 _ rfl ga (wn * 33) rfl (wc s0).toList _ (by exact HRG) Try.underlying46 rfl (by kernel_rfl) ?_))
                refine HS.out.mono ?_
                rintro e u9 ⟨s2, rfl, A9, M9, T9⟩
                obtain ⟨hem, hp2⟩ := Ems.of A9
                have E9 := E8.touch M9 T9
                have Z10 := Bk.new u9 (wc wz) 46
                have Y10 := boxed_bk u9 s2
                have bb10 := boxed_below u9 s2
                have E10 := E9.keep bb10
                have lga : ga + 3 < u9.heap.size := E9.T.lt
                obtain ⟨w10, hw10⟩ : ∃ u, u = (u9.alloc (.cells (wc wz) 46)).setRow u9.heap.size (wc s2) := ⟨_, rfl⟩
                rw [← hw10] at Y10 E10
                have HW10 := Lib.hid hw10
                clear hw10 bb10 A9 M9 T9 E9 HS E8 HRG
                have hcl : w10.cell? ⟨ga, wn * 33, none⟩ = some (.int .i64 s0.p.ln) := by
                  have := wcs_cell E10.K.A hx0 (j := 0) (by omega)
                  rw [← HS0.out] at this
                  exact this
                have hco : w10.cell? ⟨ga, wn * 33 + 4, none⟩ = some (.int .i64 s0.p.o3) := by
                  have := wcs_cell E10.K.A hx0 (j := 4) (by omega)
                  rw [← HS0.out] at this
                  exact this
                have cx := E10.K.C.cells
                have lgc : gc < w10.heap.size := E10.K.C.lt
                have lg1 : ga + 1 < w10.heap.size := E10.F.lt
                have lg2 : ga + 2 < w10.heap.size := E10.H.lt
                have lg3 : ga + 3 < w10.heap.size := E10.T.lt
                have lgy : u9.heap.size < w10.heap.size := Y10.lt
                have hwF : wn < F.length := by omega
                have cfw := E10.f hwF hFw
                have ffw : w10.frozen? ⟨ga + 1, wn, none⟩ = false := E10.F.frozen wn
                obtain ⟨⟨hmi, hmw⟩, hmi2, hmw2⟩ := mul_small (j := j) (f := f) hM8 hB8 hjM hfB
                obtain ⟨hdec, hdei⟩ := dec_small (f := f) (Nat.le_trans hfB hB8.2) hlv
                clear hlv
                have E11 := E10.setF wn f
                have Y11' := Y10.setCell_far (a := ⟨ga + 1, wn, none⟩) (by simp; omega) (.int .i64 (f : Int))
                obtain ⟨w11, hw11⟩ : ∃ u, u = w10.setCell ⟨ga + 1, wn, none⟩ (.int .i64 (f : Int)) := ⟨_, rfl⟩
                rw [← hw11] at E11 Y11'
                have HW11 := Lib.hid hw11
                have hwF2 : wn < (F.set wn f).length := by rw [List.length_set]; exact hwF
                have hFw2 : (F.set wn f).getD wn 0 = f := by rw [scset, if_pos ⟨rfl, hwF⟩]
                clear hw11 E10 Y10
                go_wp2_with (first | (rw [← HW11.out]; clear HW11 cfw ffw hcl hco cx lg1 lg2 lg3 lgc lgy) | ((with_reducible refine wpList_alloc_wz rfl rfl ?_)) | (refine wpList_store_row rfl 46 _ _ rfl (u9.heap.size) (wc s2) rfl rfl _ _ (by exact Z10) (by kernel_rfl) (by kernel_rfl) (by kernel_rfl) ?_; rw [← HW10.out]; clear HW10 Z10))
                have Bd : Below w11.heap.size w11 w11.drew := Below.drew (Below.refl _ _)
                have Ed := E11.keep Bd
                have Yd := Y11'.keep Bd
                refine wp_region_held_drew (S := fun w' => w'.cell? ⟨gc, 2, none⟩ = some (.int .i64 (B : Int)) ∧ w'.cell? ⟨ga + 1, wn, none⟩ = some (.int .i64 ((f : Nat) : Int))) (by kernel_rfl) ⟨Ed.K.C.cells 2, Ed.f hwF2 hFw2⟩ (fun hHeld => ?_)
                generalize w11.drew = z0 at *
                clear Bd E11 Y11'
                refine wpAnyH_take (i := 0) (oi := _) (v := .int .i64 (j : Int)) rfl (by kernel_rfl) (by kernel_rfl) (by kernel_rfl) (fun _ _ _ h => h) (Or.inl ⟨by rfl, fun w' hSw => by have x1 := hSw.1; have x2 := hSw.2; go_simp⟩) hHeld ?_
                try simp only [Act.put, List.getElem_toArray, List.getElem_cons_succ, List.getElem_cons_zero, List.setIfInBounds_toArray, List.set_cons_succ, List.set_cons_zero]
                refine wpAnyH_take (i := 1) (oi := _) (v := .pointer (some ⟨gc, 2, none⟩)) rfl (by kernel_rfl) (by kernel_rfl) (by kernel_rfl) (fun _ _ _ h => h) (Or.inl ⟨by rfl, fun w' hSw => by have x1 := hSw.1; have x2 := hSw.2; go_simp⟩) hHeld ?_
                try simp only [Act.put, List.getElem_toArray, List.getElem_cons_succ, List.getElem_cons_zero, List.setIfInBounds_toArray, List.set_cons_succ, List.set_cons_zero]
                refine wpAnyH_take (i := 2) (oi := _) (v := .int .i64 (B : Int)) rfl (by kernel_rfl) (by kernel_rfl) (by kernel_rfl) (fun _ _ _ h => h) (Or.inl ⟨by rfl, fun w' hSw => by have x1 := hSw.1; have x2 := hSw.2; go_simp⟩) hHeld ?_
                try simp only [Act.put, List.getElem_toArray, List.getElem_cons_succ, List.getElem_cons_zero, List.setIfInBounds_toArray, List.set_cons_succ, List.set_cons_zero]
                refine wpAnyH_take (i := 3) (oi := _) (v := .int .i64 ((j : Int) * B)) rfl (by kernel_rfl) (by kernel_rfl) (by kernel_rfl) (fun _ _ _ h => h) (Or.inl ⟨by rfl, fun w' hSw => by have x1 := hSw.1; have x2 := hSw.2; go_simp⟩) hHeld ?_
                try simp only [Act.put, List.getElem_toArray, List.getElem_cons_succ, List.getElem_cons_zero, List.setIfInBounds_toArray, List.set_cons_succ, List.set_cons_zero]
                refine wpAnyH_take (i := 4) (oi := _) (v := .slice (some ⟨ga + 1, 0, none⟩) N N) rfl (by kernel_rfl) (by kernel_rfl) (by kernel_rfl) (fun _ _ _ h => h) (Or.inl ⟨by rfl, fun w' hSw => by have x1 := hSw.1; have x2 := hSw.2; go_simp⟩) hHeld ?_
                try simp only [Act.put, List.getElem_toArray, List.getElem_cons_succ, List.getElem_cons_zero, List.setIfInBounds_toArray, List.set_cons_succ, List.set_cons_zero]
                refine wpAnyH_take (i := 5) (oi := _) (v := .int .i64 (wn : Int)) rfl (by kernel_rfl) (by kernel_rfl) (by kernel_rfl) (fun _ _ _ h => h) (Or.inl ⟨by rfl, fun w' hSw => by have x1 := hSw.1; have x2 := hSw.2; go_simp⟩) hHeld ?_
                try simp only [Act.put, List.getElem_toArray, List.getElem_cons_succ, List.getElem_cons_zero, List.setIfInBounds_toArray, List.set_cons_succ, List.set_cons_zero]
                refine wpAnyH_take (i := 6) (oi := _) (v := .pointer (some ⟨ga + 1, wn, none⟩)) rfl (by kernel_rfl) (by kernel_rfl) (by kernel_rfl) (fun _ _ _ h => h) (Or.inl ⟨by rfl, fun w' hSw => by have x1 := hSw.1; have x2 := hSw.2; go_simp⟩) hHeld ?_
                try simp only [Act.put, List.getElem_toArray, List.getElem_cons_succ, List.getElem_cons_zero, List.setIfInBounds_toArray, List.set_cons_succ, List.set_cons_zero]
                refine wpAnyH_take (i := 7) (oi := _) (v := .int .i64 ((f : Nat) : Int)) rfl (by kernel_rfl) (by kernel_rfl) (by kernel_rfl) (fun _ _ _ h => h) (Or.inl ⟨by rfl, fun w' hSw => by have x1 := hSw.1; have x2 := hSw.2; go_simp⟩) hHeld ?_
                try simp only [Act.put, List.getElem_toArray, List.getElem_cons_succ, List.getElem_cons_zero, List.setIfInBounds_toArray, List.set_cons_succ, List.set_cons_zero]
                refine wpAnyH_take (i := 8) (oi := _) (v := .int .i64 ((j : Int) * B + (f : Nat))) rfl (by kernel_rfl) (by kernel_rfl) (by kernel_rfl) (fun _ _ _ h => h) (Or.inl ⟨by rfl, fun w' hSw => by have x1 := hSw.1; have x2 := hSw.2; go_simp⟩) hHeld ?_
                try simp only [Act.put, List.getElem_toArray, List.getElem_cons_succ, List.getElem_cons_zero, List.setIfInBounds_toArray, List.set_cons_succ, List.set_cons_zero]
                refine wpAnyH_take (i := 9) (oi := _) (v := .pointer (some ⟨u9.heap.size, 0, none⟩)) rfl (by kernel_rfl) (by kernel_rfl) (by kernel_rfl) (fun _ _ _ h => h) (Or.inl ⟨by rfl, fun w' hSw => by have x1 := hSw.1; have x2 := hSw.2; go_simp⟩) hHeld ?_
                try simp only [Act.put, List.getElem_toArray, List.getElem_cons_succ, List.getElem_cons_zero, List.setIfInBounds_toArray, List.set_cons_succ, List.set_cons_zero]
                refine wpAnyH_ready (rs := [10]) (by kernel_rfl) (by simp) ?_
                refine AllReadyH.cons (o := _) rfl (fun K hK => ?_) AllReadyH.nil
                have q10 : z0.cell? ⟨u9.heap.size, 0, none⟩ = some (.int .i64 s2.p.ln) := Yd.cells 0
                have qf10 : z0.frozen? ⟨u9.heap.size, 0, none⟩ = false := Yd.frozen 0
                go_simp
                have Ee := Ed.far lga 0 (.int .i64 30)
                have Ye := Yd.setCell 0 (.int .i64 30)
                refine hK.out _ _ (⟨Ee.K.C.cells 2, Ee.f hwF2 hFw2⟩) (fun hHeld2 => ?_)
                clear hK K q10 qf10 Ed Yd
                obtain ⟨z1, hz1⟩ : ∃ u, u = z0.setCell ⟨u9.heap.size, 0, none⟩ (.int .i64 30) := ⟨_, rfl⟩
                rw [← hz1] at Ee Ye hHeld2 ⊢
                clear hz1
                try simp only [Act.put, List.getElem_toArray, List.getElem_cons_succ, List.getElem_cons_zero, List.setIfInBounds_toArray, List.set_cons_succ, List.set_cons_zero]
                refine wpAnyH_take (i := 11) (oi := _) (v := .pointer (some ⟨u9.heap.size, 19, none⟩)) rfl (by kernel_rfl) (by kernel_rfl) (by kernel_rfl) (fun _ _ _ h => h) (Or.inl ⟨by rfl, fun w' hSw => by go_simp⟩) hHeld2 ?_
                try simp only [Act.put, List.getElem_toArray, List.getElem_cons_succ, List.getElem_cons_zero, List.setIfInBounds_toArray, List.set_cons_succ, List.set_cons_zero]
                refine wpAnyH_ready (rs := [12]) (by kernel_rfl) (by simp) ?_
                refine AllReadyH.cons (o := _) rfl (fun K hK => ?_) AllReadyH.nil
                have q12 : z1.cell? ⟨u9.heap.size, 19, none⟩ = some (.int .i64 s2.p.k) := Ye.cells 19
                have qf12 : z1.frozen? ⟨u9.heap.size, 19, none⟩ = false := Ye.frozen 19
                go_simp
                have Eg := Ee.far lga 19 (.int .i64 ((j : Int) * B + (f : Nat)))
                have Yg := Ye.setCell 19 (.int .i64 ((j : Int) * B + (f : Nat)))
                refine hK.out _ _ (⟨Eg.K.C.cells 2, Eg.f hwF2 hFw2⟩) (fun hHeld3 => ?_)
                clear hK K q12 qf12 Ee Ye
                obtain ⟨z2, hz2⟩ : ∃ u, u = z1.setCell ⟨u9.heap.size, 19, none⟩ (.int .i64 ((j : Int) * B + (f : Nat))) := ⟨_, rfl⟩
                rw [← hz2] at Eg Yg hHeld3 ⊢
                clear hz2
                try simp only [Act.put, List.getElem_toArray, List.getElem_cons_succ, List.getElem_cons_zero, List.setIfInBounds_toArray, List.set_cons_succ, List.set_cons_zero]
                refine wpAnyH_done (by kernel_rfl) ?_ _
                clear hHeld hHeld2 hHeld3
                obtain ⟨sf, hsf⟩ : ∃ t : Wk, t = ({ s2 with p := { s2.p with ln := 30, k := (j : Int) * B + (f : Nat) } } : Wk) := ⟨_, rfl⟩
                have Y11 : Bk z2 u9.heap.size (wc sf) 46 := by rw [hsf]; exact Yg
                clear Yg
                have cf2 := Eg.f hwF2 hFw2
                have lg1 : ga + 1 < z2.heap.size := Eg.F.lt
                obtain ⟨hf0, hf0'⟩ := pos_small hf1
                have E12 := Eg.setA (wcs (xs.set wn sf))
                have EA := Eg.K.A
                obtain ⟨w12, hw12⟩ : ∃ u, u = z2.setRow ga (wcs (xs.set wn sf)) := ⟨_, rfl⟩
                rw [← hw12] at E12
                have HW12 := Lib.hid hw12
                have hES : Ems sf := by rw [hsf]; exact hem.plain _
                have hEP : (sf).p = ({ r.p with ln := 30, k := (j : Int) * B + (f : Nat) } : Pl) := by rw [hsf, hp2]
                have HES := Lib.hid hES
                have HEP := Lib.hid hEP
                have HSI := Lib.hid hsi
                clear hw12 Eg hES hEP
                clear hem hp2 hsi hsf
                go_wp2_with (first | (refine wpList_load_row rfl 46 _ rfl (u9.heap.size) rfl _ (wc sf) (0, 0) _ (by exact Y11) Try.underlying46 rfl (by kernel_rfl) ?_) | ((with_reducible refine Sub.wpList_store_sub rfl 46 _ _ rfl ga (wn * 33) (wc sf) ?_ ?_ 46 (wcs xs) (wcs (xs.set wn sf)) ?_ ?_ ?_ ?_ ?_ ?_); exact rfl; exact rfl; exact EA; kernel_rfl; exact HROW.out; kernel_rfl; exact wcs_set hx0 sf; rw [← HW12.out]; clear HW12 EA))
                go_roundw
                case rel => exact ⟨k + 1, r.L, xs.set wn sf, F.set wn f, H, T, r.a, by go_num, by omega, by rw [List.map_set, HEP.out]; exact HSI.out, fun s hs => by
                    rcases List.mem_or_eq_of_mem_set hs with q | rfl
                    · exact HEE.out s q
                    · exact HES.out, E12⟩
                case measure => simp [intOf]; omega
            · as_aux_lemma =>
                obtain ⟨hwy, hl, j, hjM, hro, hFw, hHw, hst, hsi⟩ := hcase
                obtain ⟨ow, how⟩ : ∃ l : Nat, l = wn + 1 := ⟨_, rfl⟩
                rw [← how] at hHw
                obtain ⟨hwn1, hwn1i⟩ := inc_small (f := wn) (by omega) how
                have t34 : (s0.p.ln == 34) = false := by simp [hl]
                have t33 : (s0.p.ln == 33) = false := by simp [hl]
                have t37 : (s0.p.ln == 37) = false := by simp [hl]
                have t30 : (s0.p.ln == 30) = false := by simp [hl]
                have t32 : (s0.p.ln == 32) = true := by simp [hl]
                clear hl how
                obtain ⟨G1, hG1⟩ : ∃ G, G = L1.getD 0 0 := ⟨_, rfl⟩
                rw [← hG1] at hsi hgr hgb
                have hrl := hsi.size hD
                have hld : ldV r.L 0 = G1 := by rw [← hgr]; exact sc_ld (i := 0) (by omega)
                have hwb : wrdB (cSc N M B) r.L (j : Int) = true := wrdB_spec.2 ⟨cSc_chk hD, hsi.len, by omega, by show (j : Int) < M; omega⟩
                have hwv : wrdV (cSc N M B) r.L (j : Int) % 16 = 3 := by
                  unfold wrdV
                  rw [if_pos hwb]
                  exact hst
                have HSTT : RowKit.Hid (∀ (v : Sl) w', Reads w' .u64 v.v r.L → Calls Try.prog 32 #[cv (cSc N M B), v.v, .int .i64 (j : Int)] w' (RetB (.int .i64 3) w')) := Lib.hid (fun v w' hr => by
                  have := stateW (cSc N M B) HWF.out (v := v) hr hsi.wr (j : Int) rfl hwb
                  rwa [hwv] at this)
                have HLD := Lib.hid hld
                have HRL := Lib.hid hrl
                have HM := Lib.hid (show r.L.length ≤ 1000 by omega)
                clear hG1 hld hrl hgr hwb hwv hst
                go_wp2_with (first | (refine wpList_load_mid rfl 46 _ rfl ga (wn * 33) rfl (wc s0).toList _ (by exact HRG) Try.underlying46 rfl (by kernel_rfl) ?_))
                refine HS.out.mono ?_
                rintro e u9 ⟨s2, rfl, A9, M9, T9⟩
                obtain ⟨hem, hp2⟩ := Ems.of A9
                have E9 := E8.touch M9 T9
                have Z10 := Bk.new u9 (wc wz) 46
                have Y10 := boxed_bk u9 s2
                have bb10 := boxed_below u9 s2
                have E10 := E9.keep bb10
                have lga : ga + 3 < u9.heap.size := E9.T.lt
                obtain ⟨w10, hw10⟩ : ∃ u, u = (u9.alloc (.cells (wc wz) 46)).setRow u9.heap.size (wc s2) := ⟨_, rfl⟩
                rw [← hw10] at Y10 E10
                have HW10 := Lib.hid hw10
                clear hw10 bb10 A9 M9 T9 E9 HS E8 HRG
                have hcl : w10.cell? ⟨ga, wn * 33, none⟩ = some (.int .i64 s0.p.ln) := by
                  have := wcs_cell E10.K.A hx0 (j := 0) (by omega)
                  rw [← HS0.out] at this
                  exact this
                have hco : w10.cell? ⟨ga, wn * 33 + 4, none⟩ = some (.int .i64 s0.p.o3) := by
                  have := wcs_cell E10.K.A hx0 (j := 4) (by omega)
                  rw [← HS0.out] at this
                  exact this
                have HPK0 := Lib.hid (fun w' (M' : MemAt w.heap.size w' g (cSc N M B) r.a gl cp r.L) => HLD.out ▸ peek_any M' (by have := HRL.out; omega) 0)
                have hwF : wn < F.length := by omega
                have hjH : j < H.length := by omega
                have hjT : j < T.length := by omega
                have hjN : ¬ (j : Int) < 0 := by omega
                have dj : decide ((j : Int) < 0) = false := by simp
                have dM : decide (M ≤ j) = false := by simp; omega
                have dM' : decide ((M : Int) ≤ (j : Int)) = false := by simp; omega
                have dow : ((ow : Int) != (ow : Int)) = false := by simp
                go_wp2_with (first | ((with_reducible refine wpList_alloc_wz rfl rfl ?_)) | (refine wpList_store_row rfl 46 _ _ rfl (u9.heap.size) (wc s2) rfl rfl _ _ (by exact Z10) (by kernel_rfl) (by kernel_rfl) (by kernel_rfl) ?_; rw [← HW10.out]; clear HW10 Z10))
                clear hcl hco
                have Bd : Below w10.heap.size w10 w10.drew := Below.drew (Below.refl _ _)
                have Ed := E10.keep Bd
                have Yd := Y10.keep Bd
                have hS0 : Below w10.drew.heap.size w10.drew w10.drew := Below.refl _ _
                refine wp_region_held_drew (S := fun w' => Below w10.drew.heap.size w10.drew w') (by kernel_rfl) hS0 (fun hHeld => ?_)
                generalize w10.drew = z0 at *
                clear Bd E10 Y10 hS0
                refine wpAnyH_take (i := 0) (oi := _) (v := .slice (some ⟨ga + 1, 0, none⟩) N N) rfl (by kernel_rfl) (by kernel_rfl) (by kernel_rfl) (fun _ _ _ h => h) (Or.inl ⟨by rfl, fun w' hSw => by go_simp⟩) hHeld ?_
                try simp only [Act.put, List.getElem_toArray, List.getElem_cons_succ, List.getElem_cons_zero, List.setIfInBounds_toArray, List.set_cons_succ, List.set_cons_zero]
                refine wpAnyH_take (i := 1) (oi := _) (v := .int .i64 (wn : Int)) rfl (by kernel_rfl) (by kernel_rfl) (by kernel_rfl) (fun _ _ _ h => h) (Or.inl ⟨by rfl, fun w' hSw => by go_simp⟩) hHeld ?_
                try simp only [Act.put, List.getElem_toArray, List.getElem_cons_succ, List.getElem_cons_zero, List.setIfInBounds_toArray, List.set_cons_succ, List.set_cons_zero]
                refine wpAnyH_take (i := 2) (oi := _) (v := .pointer (some ⟨ga + 1, wn, none⟩)) rfl (by kernel_rfl) (by kernel_rfl) (by kernel_rfl) (fun _ _ _ h => h) (Or.inl ⟨by rfl, fun w' hSw => by go_simp⟩) hHeld ?_
                try simp only [Act.put, List.getElem_toArray, List.getElem_cons_succ, List.getElem_cons_zero, List.setIfInBounds_toArray, List.set_cons_succ, List.set_cons_zero]
                refine wpAnyH_take (i := 3) (oi := _) (v := .int .i64 1) rfl (by kernel_rfl) (by kernel_rfl) (by kernel_rfl) (fun _ _ _ h => h) (Or.inl ⟨by rfl, fun w' hSw => by have xx := (Ed.keep hSw).f hwF hFw; go_simp⟩) hHeld ?_
                try simp only [Act.put, List.getElem_toArray, List.getElem_cons_succ, List.getElem_cons_zero, List.setIfInBounds_toArray, List.set_cons_succ, List.set_cons_zero]
                refine wpAnyH_take (i := 4) (oi := _) (v := .bool false) rfl (by kernel_rfl) (by kernel_rfl) (by kernel_rfl) (fun _ _ _ h => h) (Or.inl ⟨by rfl, fun w' hSw => by go_simp⟩) hHeld ?_
                try simp only [Act.put, List.getElem_toArray, List.getElem_cons_succ, List.getElem_cons_zero, List.setIfInBounds_toArray, List.set_cons_succ, List.set_cons_zero]
                refine wpAnyH_take (i := 5) (oi := _) (v := .bool false) rfl (by kernel_rfl) (by kernel_rfl) (by kernel_rfl) (fun _ _ _ h => h) (Or.inl ⟨by rfl, fun w' hSw => by go_simp⟩) hHeld ?_
                try simp only [Act.put, List.getElem_toArray, List.getElem_cons_succ, List.getElem_cons_zero, List.setIfInBounds_toArray, List.set_cons_succ, List.set_cons_zero]
                refine wpAnyH_take (i := 6) (oi := _) (v := .int .i64 (j : Int)) rfl (by kernel_rfl) (by kernel_rfl) (by kernel_rfl) (fun _ _ _ h => h) (Or.inl ⟨by rfl, fun w' hSw => by go_simp⟩) hHeld ?_
                try simp only [Act.put, List.getElem_toArray, List.getElem_cons_succ, List.getElem_cons_zero, List.setIfInBounds_toArray, List.set_cons_succ, List.set_cons_zero]
                refine wpAnyH_take (i := 7) (oi := _) (v := .bool false) rfl (by kernel_rfl) (by kernel_rfl) (by kernel_rfl) (fun _ _ _ h => h) (Or.inl ⟨by rfl, fun w' hSw => by go_simp⟩) hHeld ?_
                try simp only [Act.put, List.getElem_toArray, List.getElem_cons_succ, List.getElem_cons_zero, List.setIfInBounds_toArray, List.set_cons_succ, List.set_cons_zero]
                refine wpAnyH_take (i := 8) (oi := _) (v := .bool false) rfl (by kernel_rfl) (by kernel_rfl) (by kernel_rfl) (fun _ _ _ h => h) (Or.inl ⟨by rfl, fun w' hSw => by go_simp⟩) hHeld ?_
                try simp only [Act.put, List.getElem_toArray, List.getElem_cons_succ, List.getElem_cons_zero, List.setIfInBounds_toArray, List.set_cons_succ, List.set_cons_zero]
                refine wpAnyH_take (i := 9) (oi := _) (v := .bool false) rfl (by kernel_rfl) (by kernel_rfl) (by kernel_rfl) (fun _ _ _ h => h) (Or.inl ⟨by rfl, fun w' hSw => by go_simp⟩) hHeld ?_
                try simp only [Act.put, List.getElem_toArray, List.getElem_cons_succ, List.getElem_cons_zero, List.setIfInBounds_toArray, List.set_cons_succ, List.set_cons_zero]
                refine wpAnyH_take (i := 10) (oi := _) (v := .int .i64 (j : Int)) rfl (by kernel_rfl) (by kernel_rfl) (by kernel_rfl) (fun _ _ _ h => h) (Or.inl ⟨by rfl, fun w' hSw => by go_simp⟩) hHeld ?_
                try simp only [Act.put, List.getElem_toArray, List.getElem_cons_succ, List.getElem_cons_zero, List.setIfInBounds_toArray, List.set_cons_succ, List.set_cons_zero]
                refine wpAnyH_take (i := 11) (oi := _) (v := .pointer (some ⟨gc, 1, none⟩)) rfl (by kernel_rfl) (by kernel_rfl) (by kernel_rfl) (fun _ _ _ h => h) (Or.inl ⟨by rfl, fun w' hSw => by go_simp⟩) hHeld ?_
                try simp only [Act.put, List.getElem_toArray, List.getElem_cons_succ, List.getElem_cons_zero, List.setIfInBounds_toArray, List.set_cons_succ, List.set_cons_zero]
                refine wpAnyH_take (i := 12) (oi := _) (v := .int .i64 (M : Int)) rfl (by kernel_rfl) (by kernel_rfl) (by kernel_rfl) (fun _ _ _ h => h) (Or.inl ⟨by rfl, fun w' hSw => by have xx := (Ed.keep hSw).K.C.cells; go_simp⟩) hHeld ?_
                try simp only [Act.put, List.getElem_toArray, List.getElem_cons_succ, List.getElem_cons_zero, List.setIfInBounds_toArray, List.set_cons_succ, List.set_cons_zero]
                refine wpAnyH_take (i := 13) (oi := _) (v := .bool false) rfl (by kernel_rfl) (by kernel_rfl) (by kernel_rfl) (fun _ _ _ h => h) (Or.inl ⟨by rfl, fun w' hSw => by go_simp⟩) hHeld ?_
                try simp only [Act.put, List.getElem_toArray, List.getElem_cons_succ, List.getElem_cons_zero, List.setIfInBounds_toArray, List.set_cons_succ, List.set_cons_zero]
                refine wpAnyH_take (i := 14) (oi := _) (v := .bool false) rfl (by kernel_rfl) (by kernel_rfl) (by kernel_rfl) (fun _ _ _ h => h) (Or.inl ⟨by rfl, fun w' hSw => by go_simp⟩) hHeld ?_
                try simp only [Act.put, List.getElem_toArray, List.getElem_cons_succ, List.getElem_cons_zero, List.setIfInBounds_toArray, List.set_cons_succ, List.set_cons_zero]
                refine wpAnyH_take (i := 15) (oi := _) (v := .bool false) rfl (by kernel_rfl) (by kernel_rfl) (by kernel_rfl) (fun _ _ _ h => h) (Or.inl ⟨by rfl, fun w' hSw => by go_simp⟩) hHeld ?_
                try simp only [Act.put, List.getElem_toArray, List.getElem_cons_succ, List.getElem_cons_zero, List.setIfInBounds_toArray, List.set_cons_succ, List.set_cons_zero]
                refine wpAnyH_take (i := 16) (oi := _) (v := cv (cSc N M B)) rfl (by kernel_rfl) (by kernel_rfl) (by kernel_rfl) (fun _ _ _ h => h) (Or.inl ⟨by rfl, fun w' hSw => by have xx := (Ed.keep hSw).K.C.cells; go_simp⟩) hHeld ?_
                try simp only [Act.put, List.getElem_toArray, List.getElem_cons_succ, List.getElem_cons_zero, List.setIfInBounds_toArray, List.set_cons_succ, List.set_cons_zero]
                refine wpAnyH_take (i := 17) (oi := _) (v := .pointer (some ⟨g, 0, none⟩)) rfl (by kernel_rfl) (by kernel_rfl) (by kernel_rfl) (fun _ _ _ h => h) (Or.inl ⟨by rfl, fun w' hSw => by go_simp⟩) hHeld ?_
                try simp only [Act.put, List.getElem_toArray, List.getElem_cons_succ, List.getElem_cons_zero, List.setIfInBounds_toArray, List.set_cons_succ, List.set_cons_zero]
                refine wpAnyH_take (i := 19) (oi := _) (v := .int .i64 (j : Int)) rfl (by kernel_rfl) (by kernel_rfl) (by kernel_rfl) (fun _ _ _ h => h) (Or.inl ⟨by rfl, fun w' hSw => by go_simp⟩) hHeld ?_
                try simp only [Act.put, List.getElem_toArray, List.getElem_cons_succ, List.getElem_cons_zero, List.setIfInBounds_toArray, List.set_cons_succ, List.set_cons_zero]
                refine wpAnyH_ready (rs := [18]) (by kernel_rfl) (by simp) ?_
                refine AllReadyH.cons (o := _) rfl (fun K hK => ?_) AllReadyH.nil
                go_simp
                refine (all_in (Ed.K.M.keep hHeld) HM.out).mono ?_
                rintro e z1 ⟨ya, rfl, hya, hb⟩
                have hHeld' := hHeld.trans (hb.mono hHeld.size)
                refine hK.out _ _ hHeld' (fun hHeld => ?_)
                clear hK K hHeld'
                try simp only [Act.put, List.getElem_toArray, List.getElem_cons_succ, List.getElem_cons_zero, List.setIfInBounds_toArray, List.set_cons_succ, List.set_cons_zero]
                have rd1 := Reads.of_own hya rfl
                clear hb hya
                have HIN := Lib.hid (HSTT.out _ _ rd1)
                clear rd1
                refine wpAnyH_ready (rs := [20]) (by kernel_rfl) (by simp) ?_
                refine AllReadyH.cons (o := _) rfl (fun K hK => ?_) AllReadyH.nil
                go_simp
                refine (HIN.out).mono ?_
                rintro e z2 ⟨rfl, hb⟩
                have hHeld' := hHeld.trans (hb.mono hHeld.size)
                refine hK.out _ _ hHeld' (fun hHeld => ?_)
                clear hK K hHeld' HIN
                try simp only [Act.put, List.getElem_toArray, List.getElem_cons_succ, List.getElem_cons_zero, List.setIfInBounds_toArray, List.set_cons_succ, List.set_cons_zero]
                clear hb
                refine wpAnyH_take (i := 21) (oi := _) (v := .bool false) rfl (by kernel_rfl) (by kernel_rfl) (by kernel_rfl) (fun _ _ _ h => h) (Or.inl ⟨by rfl, fun w' hSw => by go_simp⟩) hHeld ?_
                try simp only [Act.put, List.getElem_toArray, List.getElem_cons_succ, List.getElem_cons_zero, List.setIfInBounds_toArray, List.set_cons_succ, List.set_cons_zero]
                refine wpAnyH_take (i := 22) (oi := _) (v := .bool false) rfl (by kernel_rfl) (by kernel_rfl) (by kernel_rfl) (fun _ _ _ h => h) (Or.inl ⟨by rfl, fun w' hSw => by go_simp⟩) hHeld ?_
                try simp only [Act.put, List.getElem_toArray, List.getElem_cons_succ, List.getElem_cons_zero, List.setIfInBounds_toArray, List.set_cons_succ, List.set_cons_zero]
                refine wpAnyH_take (i := 23) (oi := _) (v := .bool false) rfl (by kernel_rfl) (by kernel_rfl) (by kernel_rfl) (fun _ _ _ h => h) (Or.inl ⟨by rfl, fun w' hSw => by go_simp⟩) hHeld ?_
                try simp only [Act.put, List.getElem_toArray, List.getElem_cons_succ, List.getElem_cons_zero, List.setIfInBounds_toArray, List.set_cons_succ, List.set_cons_zero]
                refine wpAnyH_take (i := 24) (oi := _) (v := .slice (some ⟨ga + 2, 0, none⟩) M M) rfl (by kernel_rfl) (by kernel_rfl) (by kernel_rfl) (fun _ _ _ h => h) (Or.inl ⟨by rfl, fun w' hSw => by go_simp⟩) hHeld ?_
                try simp only [Act.put, List.getElem_toArray, List.getElem_cons_succ, List.getElem_cons_zero, List.setIfInBounds_toArray, List.set_cons_succ, List.set_cons_zero]
                refine wpAnyH_take (i := 25) (oi := _) (v := .int .i64 (j : Int)) rfl (by kernel_rfl) (by kernel_rfl) (by kernel_rfl) (fun _ _ _ h => h) (Or.inl ⟨by rfl, fun w' hSw => by go_simp⟩) hHeld ?_
                try simp only [Act.put, List.getElem_toArray, List.getElem_cons_succ, List.getElem_cons_zero, List.setIfInBounds_toArray, List.set_cons_succ, List.set_cons_zero]
                refine wpAnyH_take (i := 26) (oi := _) (v := .pointer (some ⟨ga + 2, j, none⟩)) rfl (by kernel_rfl) (by kernel_rfl) (by kernel_rfl) (fun _ _ _ h => h) (Or.inl ⟨by rfl, fun w' hSw => by go_simp⟩) hHeld ?_
                try simp only [Act.put, List.getElem_toArray, List.getElem_cons_succ, List.getElem_cons_zero, List.setIfInBounds_toArray, List.set_cons_succ, List.set_cons_zero]
                refine wpAnyH_take (i := 27) (oi := _) (v := .int .i64 (ow : Int)) rfl (by kernel_rfl) (by kernel_rfl) (by kernel_rfl) (fun _ _ _ h => h) (Or.inl ⟨by rfl, fun w' hSw => by have xx := (Ed.keep hSw).h hjH hHw; go_simp⟩) hHeld ?_
                try simp only [Act.put, List.getElem_toArray, List.getElem_cons_succ, List.getElem_cons_zero, List.setIfInBounds_toArray, List.set_cons_succ, List.set_cons_zero]
                refine wpAnyH_take (i := 28) (oi := _) (v := .int .i64 (wn : Int)) rfl (by kernel_rfl) (by kernel_rfl) (by kernel_rfl) (fun _ _ _ h => h) (Or.inl ⟨by rfl, fun w' hSw => by go_simp⟩) hHeld ?_
                try simp only [Act.put, List.getElem_toArray, List.getElem_cons_succ, List.getElem_cons_zero, List.setIfInBounds_toArray, List.set_cons_succ, List.set_cons_zero]
                refine wpAnyH_take (i := 29) (oi := _) (v := .int .i64 (ow : Int)) rfl (by kernel_rfl) (by kernel_rfl) (by kernel_rfl) (fun _ _ _ h => h) (Or.inl ⟨by rfl, fun w' hSw => by go_simp⟩) hHeld ?_
                try simp only [Act.put, List.getElem_toArray, List.getElem_cons_succ, List.getElem_cons_zero, List.setIfInBounds_toArray, List.set_cons_succ, List.set_cons_zero]
                refine wpAnyH_take (i := 30) (oi := _) (v := .bool false) rfl (by kernel_rfl) (by kernel_rfl) (by kernel_rfl) (fun _ _ _ h => h) (Or.inl ⟨by rfl, fun w' hSw => by go_simp⟩) hHeld ?_
                try simp only [Act.put, List.getElem_toArray, List.getElem_cons_succ, List.getElem_cons_zero, List.setIfInBounds_toArray, List.set_cons_succ, List.set_cons_zero]
                refine wpAnyH_take (i := 31) (oi := _) (v := .bool false) rfl (by kernel_rfl) (by kernel_rfl) (by kernel_rfl) (fun _ _ _ h => h) (Or.inl ⟨by rfl, fun w' hSw => by go_simp⟩) hHeld ?_
                try simp only [Act.put, List.getElem_toArray, List.getElem_cons_succ, List.getElem_cons_zero, List.setIfInBounds_toArray, List.set_cons_succ, List.set_cons_zero]
                refine wpAnyH_done (by kernel_rfl) ?_ _
                have E11 := Ed.keep hHeld
                have Y11 := Yd.keep hHeld
                clear hHeld Ed Yd
                have cv0 : z2.cell? ⟨ga, wn * 33 + 25, none⟩ = some (.int .u64 s0.p.v) := by
                  have := wcs_cell E11.K.A hx0 (j := 25) (by omega)
                  rw [← HS0.out] at this
                  exact this
                have cf0 := E11.f hwF hFw
                have ff0 : z2.frozen? ⟨ga + 1, wn, none⟩ = false := E11.F.frozen wn
                have ch0 := E11.h hjH hHw
                have fh0 : z2.frozen? ⟨ga + 2, j, none⟩ = false := E11.H.frozen j
                have ct0 := E11.t hjT rfl
                have ft0 : z2.frozen? ⟨ga + 3, j, none⟩ = false := E11.T.frozen j
                have lg0 : ga < z2.heap.size := E11.K.A.lt
                have lg1 : ga + 1 < z2.heap.size := E11.F.lt
                have lg2 : ga + 2 < z2.heap.size := E11.H.lt
                have lg3 : ga + 3 < z2.heap.size := E11.T.lt
                have E13 := ((E11.setH j 0).setF wn 0).setT j s0.p.v
                have Y13 := ((Y11.setCell_far (a := ⟨ga + 2, j, none⟩) (by simp; omega) (.int .i64 ((0 : Nat) : Int))).setCell_far (a := ⟨ga + 1, wn, none⟩) (by simp; omega) (.int .i64 ((0 : Nat) : Int))).setCell_far (a := ⟨ga + 3, j, none⟩) (by simp; omega) (.int .u64 s0.p.v)
                obtain ⟨w13, hw13⟩ : ∃ u, u = ((z2.setCell ⟨ga + 2, j, none⟩ (.int .i64 ((0 : Nat) : Int))).setCell ⟨ga + 1, wn, none⟩ (.int .i64 ((0 : Nat) : Int))).setCell ⟨ga + 3, j, none⟩ (.int .u64 s0.p.v) := ⟨_, rfl⟩
                rw [← hw13] at E13 Y13
                have HW13 : RowKit.Hid (w13 = ((z2.setCell ⟨ga + 2, j, none⟩ (.int .i64 0)).setCell ⟨ga + 1, wn, none⟩ (.int .i64 0)).setCell ⟨ga + 3, j, none⟩ (.int .u64 s0.p.v)) := Lib.hid hw13
                have M13 := E13.K.M
                clear hw13 E11 Y11
                obtain ⟨sf, hsf⟩ : ∃ t : Wk, t = ({ s2 with p := { s2.p with ln := 33, j := 0, ep := G1 } } : Wk) := ⟨_, rfl⟩
                have c0 : w13.cell? ⟨u9.heap.size, 0, none⟩ = some (.int .i64 s2.p.ln) := Y13.cells 0
                have c28 : w13.cell? ⟨u9.heap.size, 28, none⟩ = some (.int .i64 s2.p.j) := Y13.cells 28
                have c9 : w13.cell? ⟨u9.heap.size, 9, none⟩ = some (.int .u64 s2.p.ep) := Y13.cells 9
                have z13 := Y13.frozen
                have E14 := ((E13.far lga 0 (.int .i64 33)).far lga 28 (.int .i64 0)).far lga 9 (.int .u64 G1)
                have Y14 : Bk (((w13.setCell ⟨u9.heap.size, 0, none⟩ (.int .i64 33)).setCell ⟨u9.heap.size, 28, none⟩ (.int .i64 0)).setCell ⟨u9.heap.size, 9, none⟩ (.int .u64 G1)) u9.heap.size (wc sf) 46 := by rw [hsf]; exact ((Y13.setCell 0 (.int .i64 33)).setCell 28 (.int .i64 0)).setCell 9 (.int .u64 G1)
                obtain ⟨w14, hw14⟩ : ∃ u, u = ((w13.setCell ⟨u9.heap.size, 0, none⟩ (.int .i64 33)).setCell ⟨u9.heap.size, 28, none⟩ (.int .i64 0)).setCell ⟨u9.heap.size, 9, none⟩ (.int .u64 G1) := ⟨_, rfl⟩
                rw [← hw14] at E14 Y14
                have HW14 := Lib.hid hw14
                clear hw14 E13 Y13
                have E12 := E14.setA (wcs (xs.set wn sf))
                have EA := E14.K.A
                obtain ⟨w12, hw12⟩ : ∃ u, u = w14.setRow ga (wcs (xs.set wn sf)) := ⟨_, rfl⟩
                rw [← hw12] at E12
                have HW12 := Lib.hid hw12
                have hES : Ems sf := by rw [hsf]; exact hem.plain _
                have hEP : (sf).p = ({ r.p with ln := 33, j := 0, ep := G1 } : Pl) := by rw [hsf, hp2]
                have HES := Lib.hid hES
                have HEP := Lib.hid hEP
                have HSI := Lib.hid hsi
                clear hw12 E14 hES hEP
                clear hem hp2 hsi hsf
                go_wp2_with (first | (rw [← HW13.out]; clear HW13 cv0 cf0 ff0 ch0 fh0 ct0 ft0 lg0 lg1 lg2 lg3))
                refine (HPK0.out _ M13).mono ?_
                rintro e w13' ⟨rfl, rfl⟩
                go_wp2_with (first | (rw [← HW14.out]; clear HW14 c0 c28 c9 z13 M13) | (refine wpList_load_row rfl 46 _ rfl (u9.heap.size) rfl _ (wc sf) (0, 0) _ (by exact Y14) Try.underlying46 rfl (by kernel_rfl) ?_) | ((with_reducible refine Sub.wpList_store_sub rfl 46 _ _ rfl ga (wn * 33) (wc sf) ?_ ?_ 46 (wcs xs) (wcs (xs.set wn sf)) ?_ ?_ ?_ ?_ ?_ ?_); exact rfl; exact rfl; exact EA; kernel_rfl; exact HROW.out; kernel_rfl; exact wcs_set hx0 sf; rw [← HW12.out]; clear HW12 EA))
                go_roundw
                case rel => exact ⟨k + 1, r.L, xs.set wn sf, F.set wn 0, H.set j 0, T.set j s0.p.v, r.a, by go_num, by omega, by rw [List.map_set, HEP.out]; exact HSI.out, fun s hs => by
                    rcases List.mem_or_eq_of_mem_set hs with q | rfl
                    · exact HEE.out s q
                    · exact HES.out, E12⟩
                case measure => simp [intOf]; omega
        · obtain rfl : pk.length = k := by omega
          have hdk : decide ((pk.length : Int) < (pk.length : Int)) = false := by simp
          go_wp2
          go_ret
          exact ⟨rfl, E'.K.hb⟩
end Go.Proofs.Ytblkfbbdeodpjaa.Me
