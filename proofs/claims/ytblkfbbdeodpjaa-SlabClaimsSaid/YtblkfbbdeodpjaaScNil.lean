/- The law SlabClaims where there is no pick (made by gensc2.py). -/
import Derived.Test.YtblkfbbdeodpjaaScBase
namespace Go.Proofs.Ytblkfbbdeodpjaa.Me
open Go Go.RowKit Go.Proofs.Ytblkfbbdeodpjaa.Gro Go.Proofs.Ytblkfbbdeodpjaa.Own Go.Proofs.Ytblkfbbdeodpjaa.Wd Go.Proofs.Ytblkfbbdeodpjaa.Ap Go.Proofs.Ytblkfbbdeodpjaa.Pl Go.Proofs.Ytblkfbbdeodpjaa.Wo
set_option linter.unusedVariables false
set_option linter.unusedSimpArgs false
set_option maxRecDepth 100000 in
set_option maxHeartbeats 16000000 in
theorem sc_nil (n0 n1 n2 : Int) (hn0 : 0 ≤ n0 ∧ n0 < 256) (hn1 : 0 ≤ n1 ∧ n1 < 256) (hn2 : 0 ≤ n2 ∧ n2 < 256) (ad : Option Addr) (cap : Nat) (w : World) : Calls Try.prog 7 #[.int .u8 n0, .int .u8 n1, .int .u8 n2, .slice ad 0 cap] w fun e w' => e = .returned (.bool true) ∧ Below w.heap.size w w' := by
  obtain ⟨N, hN⟩ : ∃ N : Nat, (N : Int) = 1 + n0 % 8 := ⟨(1 + n0 % 8).toNat, by omega⟩
  obtain ⟨M, hM⟩ : ∃ M : Nat, (M : Int) = 1 + n1 % 3 := ⟨(1 + n1 % 3).toNat, by omega⟩
  obtain ⟨B, hB⟩ : ∃ B : Nat, (B : Int) = 1 + n2 % 4 := ⟨(1 + n2 % 4).toNat, by omega⟩
  have hN8 : 1 ≤ N ∧ N ≤ 8 := by omega
  have hM8 : 1 ≤ M ∧ M ≤ 3 := by omega
  have hB8 : 1 ≤ B ∧ B ≤ 4 := by omega
  have hD : ScD N M B := ⟨hN8, hM8, hB8⟩
  have HNN := Lib.hid (show 1 + n0 % 8 = (N : Int) by omega)
  have HMM := Lib.hid (show 1 + n1 % 3 = (M : Int) by omega)
  have HBB := Lib.hid (show 1 + n2 % 4 = (B : Int) by omega)
  have hbc : ∀ w, (Instr.build 24 #[(0, .int .i64 (N : Int)), (1, .int .i64 (M : Int)), (2, .int .i64 (B : Int)), (3, .int .i64 1), (4, .int .i64 1), (6, .int .i64 1), (7, .int .u64 1)]).run Try.prog w = .ok (cv (cSc N M B)) w := fun w => run_build w _ _ _ (by kernel_rfl)
  clear hN hM hB
  have hn := newMem_ok (cSc N M B) (cSc_wf hD) (chk_ok.1 (cSc_chk hD))
  have HN := Lib.hid hn
  have HWF := Lib.hid (cSc_wf hD)
  have HST0 := Lib.hid (sc_start hD)
  have hb40 : ∀ w, (Instr.build 40 #[(3, .int .i64 (-1))]).run Try.prog w = .ok (.agg #[.int .i64 0, .int .u64 0, .int .u64 0, .int .i64 (-1), .bool false, .int .i64 0, .int .i64 0]) w := fun w => run_build w _ _ _ (by kernel_rfl)
  have hb33 : ∀ w, (Instr.build 46 #[(0, .int .i64 33), (3, .int .u64 2), (1, .agg #[.int .i64 0, .int .u64 0, .int .u64 0, .int .i64 (-1), .bool false, .int .i64 0, .int .i64 0])]).run Try.prog w = .ok (wv s33) w := fun w => run_build w _ _ _ (by kernel_rfl)
  clear hn
  go_enter Try.func7, Try.ntmps7
  go_wp2_with fail
  refine (awake8 _).mono ?_
  rintro e w1 ⟨rfl, hb1⟩
  have C1 := Bk.new w1 (ccM (cSc N M B)) 24
  have hw1 : Below w.heap.size w (w1.alloc (.cells (ccM (cSc N M B)) 24)) := hb1.alloc hb1.size _
  have sz1 := hb1.size
  go_wp2_with (first | (rw [HNN.out]) | (rw [HMM.out]) | (rw [HBB.out]) | (refine wpList_load_row rfl 24 _ rfl (w1.heap.size) rfl _ (ccM (cSc N M B)) (0, 0) _ (by exact C1) Try.underlying24 rfl (by kernel_rfl) ?_))
  refine (HN.out _).mono ?_
  rintro e w2 ⟨g, gl, cp, rfl, M2, hb2⟩
  have g0 := M2.g0
  have gl0 := M2.gl0
  have lm2 := M2.lt
  rw [World.size_alloc] at g0 gl0
  have C2 := C1.keep hb2
  have hw2 := hw1.trans (hb2.mono (by rw [World.size_alloc]; omega))
  have lw2 := hw2.size
  have A4 := Bk.new w2 (wcs (List.replicate N wz)) 46
  have bA : Below w2.heap.size w2 (w2.alloc (.cells (wcs (List.replicate N wz)) 46)) := (Below.refl _ _).alloc (Nat.le_refl _) _
  have E4 : Kb w (cSc N M B) w1.heap.size g gl cp w2.heap.size a0 (firstL (cSc N M B)) (wcs (List.replicate N wz)) (w2.alloc (.cells (wcs (List.replicate N wz)) 46)) :=
    ⟨C2.keep bA, (M2.base (by rw [World.size_alloc]; omega)).keep bA, A4, hw2.trans (bA.mono lw2), sz1, by omega, by omega, by omega, by omega⟩
  obtain ⟨v3, hv3⟩ : ∃ u, u = w2.alloc (.cells (wcs (List.replicate N wz)) 46) := ⟨_, rfl⟩
  have sv3 : v3.heap.size = w2.heap.size + 1 := by rw [hv3, World.size_alloc]
  rw [← hv3] at E4
  have B5 := Bk.new v3 (nl (List.replicate N 0)) 3
  have b5 : Below v3.heap.size v3 (v3.alloc (.cells (nl (List.replicate N 0)) 3)) := (Below.refl _ _).alloc (Nat.le_refl _) _
  have E5 := E4.keep b5
  obtain ⟨v4, hv4⟩ : ∃ u, u = v3.alloc (.cells (nl (List.replicate N 0)) 3) := ⟨_, rfl⟩
  have sv4 : v4.heap.size = w2.heap.size + 2 := by rw [hv4, World.size_alloc, sv3]
  rw [← hv4] at B5 E5
  rw [sv3] at B5
  have B6 := Bk.new v4 (nl (List.replicate M 0)) 3
  have b6 : Below v4.heap.size v4 (v4.alloc (.cells (nl (List.replicate M 0)) 3)) := (Below.refl _ _).alloc (Nat.le_refl _) _
  have E6 := E5.keep b6
  have B56 := B5.keep b6
  obtain ⟨v5, hv5⟩ : ∃ u, u = v4.alloc (.cells (nl (List.replicate M 0)) 3) := ⟨_, rfl⟩
  have sv5 : v5.heap.size = w2.heap.size + 3 := by rw [hv5, World.size_alloc, sv4]
  rw [← hv5] at B6 E6 B56
  rw [sv4] at B6
  have B7 := Bk.new v5 (iv .u64 (List.replicate M 0)) 22
  have b7 : Below v5.heap.size v5 (v5.alloc (.cells (iv .u64 (List.replicate M 0)) 22)) := (Below.refl _ _).alloc (Nat.le_refl _) _
  have E7' := E6.keep b7
  have B567 := B56.keep b7
  have B67 := B6.keep b7
  obtain ⟨v6, hv6⟩ : ∃ u, u = v5.alloc (.cells (iv .u64 (List.replicate M 0)) 22) := ⟨_, rfl⟩
  rw [← hv6] at B7 E7' B567 B67
  rw [sv5] at B7
  have E4c : Cb w (cSc N M B) w1.heap.size g gl cp w2.heap.size a0 (firstL (cSc N M B)) (wcs (List.replicate N wz)) (List.replicate N 0) (List.replicate M 0) (List.replicate M 0) v6 := ⟨E7', B567, B67, B7⟩
  have c2 := C2.cells
  have c3 := E4.C.cells
  have c4 := E5.C.cells
  have c5 := E6.C.cells
  have HV3 := Lib.hid hv3
  have HV4 := Lib.hid hv4
  have HV5 := Lib.hid hv5
  have HV6 := Lib.hid hv6
  have HS3 := Lib.hid sv3
  have HS4 := Lib.hid sv4
  have HS5 := Lib.hid sv5
  generalize firstL (cSc N M B) = L5 at *
  clear bA A4 M2 hb2 hw1 hw2 C1 b5 b6 b7 B5 B6 B56 B67 B567 B7 E7' E4 E5 E6 hv3 hv4 hv5 hv6 sv3 sv4 sv5
  go_wp2_with (first | (refine make_works Try.underlying55 rfl _ _ rfl N rfl rfl (by omega) ?_; rw [← HV3.out]; clear HV3) | (refine make_row Try.underlying28 infoI (by decide) rfl _ _ rfl N rfl rfl (by omega) ?_; rw [← nl_zero, ← HV4.out, HS3.out]; clear HV4) | (refine make_row Try.underlying28 infoI (by decide) rfl _ _ rfl M rfl rfl (by omega) ?_; rw [← nl_zero, ← HV5.out, HS4.out]; clear HV5) | (refine make_row Try.underlying25 infoU (by decide) rfl _ _ rfl M rfl rfl (by omega) ?_; rw [← HV6.out, HS5.out]; clear HV6))
  generalize w2.heap.size = ga at *
  generalize w1.heap.size = gc at *
  clear c2 c3 c4 c5 C2 g0 gl0 lm2 sz1 lw2 HS3 HS4 HS5
  go_loopw [16] (fun ii wr => ∃ (k m : Nat), k + m = N ∧ ii = .int .i64 (k : Int) ∧ Cb w (cSc N M B) gc g gl cp ga a0 L5 (wcs (List.replicate k s33 ++ List.replicate m wz)) (List.replicate N 0) (List.replicate M 0) (List.replicate M 0) wr) (fun ii _ => N - (intOf ii).toNat)
  case atStart => exact ⟨0, N, by omega, rfl, E4c⟩
  case round =>
    clear E4c
    obtain ⟨k, m, hkm, rfl, E'⟩ := hrel
    cases m with
    | succ m =>
      have hkN : k < N := by omega
      have hd : decide (k < N) = true := by simp [hkN]
      have hsum : IntKind.i64.wrap ((k : Int) + 1) = (k : Int) + 1 := IntWalk.i64_in _ (by omega)
      have E2 := E'.setA (wcs (List.replicate (k + 1) s33 ++ List.replicate m wz))
      have hset := wcs_set (xs := List.replicate k s33 ++ List.replicate (m + 1) wz) (k := k) (by simp) s33
      rw [sm_fill] at hset
      have hrow : k * 33 + 33 ≤ (wcs (List.replicate k s33 ++ List.replicate (m + 1) wz)).size := by rw [wcs_size]; simp; omega
      obtain ⟨u2, hu2⟩ : ∃ u, u = wr.setRow ga (wcs (List.replicate (k + 1) s33 ++ List.replicate m wz)) := ⟨_, rfl⟩
      rw [← hu2] at E2
      have HKM := Lib.hid hkm
      have HU2 := Lib.hid hu2
      have HSET := Lib.hid hset
      have HROW := Lib.hid hrow
      have EA := E'.K.A
      clear hkm hu2 hset hrow E'
      go_wp2_with ((with_reducible refine Sub.wpList_store_sub rfl 46 _ _ rfl ga (k * 33) (wc s33) ?_ ?_ 46 (wcs (List.replicate k s33 ++ List.replicate (m + 1) wz)) (wcs (List.replicate (k + 1) s33 ++ List.replicate m wz)) ?_ ?_ ?_ ?_ ?_ ?_); exact rfl; exact rfl; exact EA; kernel_rfl; exact HROW.out; kernel_rfl; exact HSET.out; rw [← HU2.out]; clear HU2 EA)
      go_roundw
      case rel => exact ⟨k + 1, m, by have := HKM.out; omega, by go_num, E2⟩
      case measure => have := HKM.out; simp [intOf]; omega
    | zero =>
      obtain rfl : N = k := by omega
      rw [List.replicate_zero, List.append_nil] at E'
      have HST : ScI N M B 0 L5 ((List.replicate N s33).map (·.p)) (List.replicate N 0) (List.replicate M 0) (List.replicate M 0) := by rw [List.map_replicate]; exact HST0.out
      have HST := Lib.hid HST
      clear hkm HST0
      go_wp2
      refine wp_loop_rounds 1 ?_
      rw [rounds_succ]
      go_wp2
      go_ret
      exact ⟨rfl, E'.K.hb⟩
end Go.Proofs.Ytblkfbbdeodpjaa.Me
