/- The law EpochHolds (made by geneh.py). -/
import Derived.Test.YtblkfbbdeodpjaaEhBox
import Derived.Test.YtblkfbbdeodpjaaEpochLines
import Derived.Test.YtblkfbbdeodpjaaEpochAwake
namespace Go.Proofs.Ytblkfbbdeodpjaa.Me
open Go Go.RowKit Go.Proofs.Ytblkfbbdeodpjaa.Gro Go.Proofs.Ytblkfbbdeodpjaa.Own Go.Proofs.Ytblkfbbdeodpjaa.Wd Go.Proofs.Ytblkfbbdeodpjaa.Ap Go.Proofs.Ytblkfbbdeodpjaa.Pl Go.Proofs.Ytblkfbbdeodpjaa.Wo
set_option linter.unusedVariables false
set_option linter.unusedSimpArgs false
theorem cEh_wf {N : Nat} (h : 1 ≤ N ∧ N ≤ 8) : (cEh N).Wf := by
  constructor <;> simp only [] <;> first | omega | decide
set_option maxRecDepth 100000 in
set_option maxHeartbeats 16000000 in
theorem eh_long (n0 : Int) (hn0 : 0 ≤ n0 ∧ n0 < 256) (ad : Option Addr) (n cap : Nat) (hlong : 800 < n) (hmax : n ≤ 9223372036854775807) (w : World) : Calls Try.prog 6 #[.int .u8 n0, .slice ad n cap] w fun e w' => e = .returned (.bool true) ∧ Below w.heap.size w w' := by
  obtain ⟨N, hN⟩ : ∃ N : Nat, (N : Int) = 1 + n0 % 8 := ⟨(1 + n0 % 8).toNat, by omega⟩
  have hN8 : 1 ≤ N ∧ N ≤ 8 := by omega
  have HNN := Lib.hid (show 1 + n0 % 8 = (N : Int) by omega)
  have hbc : ∀ w, (Instr.build 24 #[(0, .int .i64 (N : Int)), (1, .int .i64 1), (2, .int .i64 1), (3, .int .i64 1), (4, .int .i64 1), (6, .int .i64 1), (7, .int .u64 1)]).run Try.prog w = .ok (cv (cEh N)) w := fun w => run_build w _ _ _ (by kernel_rfl)
  go_enter Try.func6, Try.ntmps6
  go_wp2_with fail
  refine (awake7 _).mono ?_
  rintro e w1 ⟨rfl, hb1⟩
  have C1 := Bk.new w1 (ccM (cEh N)) 24
  have hw1 : Below w.heap.size w (w1.alloc (.cells (ccM (cEh N)) 24)) := hb1.alloc hb1.size _
  have sz1 := hb1.size
  have d1 : decide ((800 : Int) < (n : Int)) = true := by simp; omega
  go_wp2_with (first | (rw [HNN.out]))
  go_ret
  exact ⟨rfl, hw1⟩
set_option maxRecDepth 100000 in
set_option maxHeartbeats 16000000 in
theorem eh_nil (n0 : Int) (hn0 : 0 ≤ n0 ∧ n0 < 256) (ad : Option Addr) (cap : Nat) (w : World) : Calls Try.prog 6 #[.int .u8 n0, .slice ad 0 cap] w fun e w' => e = .returned (.bool true) ∧ Below w.heap.size w w' := by
  obtain ⟨N, hN⟩ : ∃ N : Nat, (N : Int) = 1 + n0 % 8 := ⟨(1 + n0 % 8).toNat, by omega⟩
  have hN8 : 1 ≤ N ∧ N ≤ 8 := by omega
  have HNN := Lib.hid (show 1 + n0 % 8 = (N : Int) by omega)
  have hbc : ∀ w, (Instr.build 24 #[(0, .int .i64 (N : Int)), (1, .int .i64 1), (2, .int .i64 1), (3, .int .i64 1), (4, .int .i64 1), (6, .int .i64 1), (7, .int .u64 1)]).run Try.prog w = .ok (cv (cEh N)) w := fun w => run_build w _ _ _ (by kernel_rfl)
  have hst := ei_start hN8
  have hn := newMem_ok (cEh N) (cEh_wf hN8) (chk_ok.1 (cEh_chk hN8))
  obtain ⟨L0, hL0⟩ : ∃ L0, L0 = firstL (cEh N) := ⟨_, rfl⟩
  rw [← hL0] at hst hn
  have HN := Lib.hid hn
  have HST := Lib.hid hst
  clear hst hn hL0 hN
  go_enter Try.func6, Try.ntmps6
  go_wp2_with fail
  refine (awake7 _).mono ?_
  rintro e w1 ⟨rfl, hb1⟩
  have C1 := Bk.new w1 (ccM (cEh N)) 24
  have hw1 : Below w.heap.size w (w1.alloc (.cells (ccM (cEh N)) 24)) := hb1.alloc hb1.size _
  have sz1 := hb1.size
  go_wp2_with (first | (rw [HNN.out]) | (refine wpList_load_row rfl 24 _ rfl (w1.heap.size) rfl _ (ccM (cEh N)) (0, 0) _ (by exact C1) Try.underlying24 rfl (by kernel_rfl) ?_))
  refine (HN.out _).mono ?_
  rintro e w2 ⟨g, gl, cp, rfl, M2, hb2⟩
  have g0 := M2.g0
  have gl0 := M2.gl0
  have lm2 := M2.lt
  rw [World.size_alloc] at g0 gl0
  have C2 := C1.keep hb2
  have hw2 := hw1.trans (hb2.mono (by rw [World.size_alloc]; omega))
  obtain ⟨gc, hgc⟩ : ∃ u, u = w1.heap.size := ⟨_, rfl⟩
  have A3 := Bk.new w2 (wcs (List.replicate N wz)) 46
  have bA : Below w2.heap.size w2 (w2.alloc (.cells (wcs (List.replicate N wz)) 46)) := (Below.refl _ _).alloc (Nat.le_refl _) _
  have B4 := Bk.new (w2.alloc (.cells (wcs (List.replicate N wz)) 46)) (bv (List.replicate N false)) 4
  have bB : Below (w2.alloc (.cells (wcs (List.replicate N wz)) 46)).heap.size (w2.alloc (.cells (wcs (List.replicate N wz)) 46)) ((w2.alloc (.cells (wcs (List.replicate N wz)) 46)).alloc (.cells (bv (List.replicate N false)) 4)) := (Below.refl _ _).alloc (Nat.le_refl _) _
  have E4 : Eb w (cEh N) w1.heap.size g gl cp w2.heap.size (w2.heap.size + 1) a0 L0 (List.replicate N wz) (List.replicate N false) ((w2.alloc (.cells (wcs (List.replicate N wz)) 46)).alloc (.cells (bv (List.replicate N false)) 4)) :=
    ⟨(C2.keep bA).keep bB, ((M2.base (by rw [World.size_alloc]; omega)).keep bA).keep bB, A3.keep bB, by rw [World.size_alloc] at B4; exact B4, (hw2.trans (bA.mono hw2.size)).trans (bB.mono (by have := hw2.size; rw [World.size_alloc]; omega)), sz1, by omega, by omega, by omega, by omega, by omega⟩
  have c2 := C2.cells
  have c3 := (C2.keep bA).cells
  clear bA bB A3 B4 M2 hb2 hw1 hw2 C1 hgc gc
  go_wp2_with (first | (refine make_works Try.underlying55 rfl _ _ rfl N rfl rfl (by omega) ?_) | (refine make_bools Try.underlying57 infoB (by decide) rfl _ _ rfl N rfl rfl (by omega) ?_))
  refine wp_loop_rounds 1 ?_
  rw [rounds_succ]
  go_wp2
  go_ret
  exact ⟨rfl, E4.hb⟩
set_option maxRecDepth 100000 in
set_option maxHeartbeats 16000000 in
theorem eh_main (n0 : Int) (hn0 : 0 ≤ n0 ∧ n0 < 256) (bp op cap : Nat) (pk : List Int) (hpk : ∀ x ∈ pk, 0 ≤ x ∧ x < 256) (hsh : pk.length ≤ 800) (w : World) (hbp : bp < w.heap.size) (hc : ∀ i (hi : i < pk.length), w.cell? ⟨bp, op + i, none⟩ = some (.int .u8 pk[i])) : Calls Try.prog 6 #[.int .u8 n0, .slice (some ⟨bp, op, none⟩) pk.length cap] w fun e w' => e = .returned (.bool true) ∧ Below w.heap.size w w' := by
  obtain ⟨N, hN⟩ : ∃ N : Nat, (N : Int) = 1 + n0 % 8 := ⟨(1 + n0 % 8).toNat, by omega⟩
  have hN8 : 1 ≤ N ∧ N ≤ 8 := by omega
  have HNN := Lib.hid (show 1 + n0 % 8 = (N : Int) by omega)
  have hbc : ∀ w, (Instr.build 24 #[(0, .int .i64 (N : Int)), (1, .int .i64 1), (2, .int .i64 1), (3, .int .i64 1), (4, .int .i64 1), (6, .int .i64 1), (7, .int .u64 1)]).run Try.prog w = .ok (cv (cEh N)) w := fun w => run_build w _ _ _ (by kernel_rfl)
  have hst := ei_start hN8
  have hn := newMem_ok (cEh N) (cEh_wf hN8) (chk_ok.1 (cEh_chk hN8))
  obtain ⟨L0, hL0⟩ : ∃ L0, L0 = firstL (cEh N) := ⟨_, rfl⟩
  rw [← hL0] at hst hn
  have HN := Lib.hid hn
  have HST := Lib.hid hst
  have HC := Lib.hid hc
  have HPK := Lib.hid hpk
  clear hst hn hL0 hc hpk hN
  go_enter Try.func6, Try.ntmps6
  go_wp2_with fail
  refine (awake7 _).mono ?_
  rintro e w1 ⟨rfl, hb1⟩
  have C1 := Bk.new w1 (ccM (cEh N)) 24
  have hw1 : Below w.heap.size w (w1.alloc (.cells (ccM (cEh N)) 24)) := hb1.alloc hb1.size _
  have sz1 := hb1.size
  have d1 : decide ((800 : Int) < (pk.length : Int)) = false := by simp; omega
  go_wp2_with (first | (rw [HNN.out]) | (refine wpList_load_row rfl 24 _ rfl (w1.heap.size) rfl _ (ccM (cEh N)) (0, 0) _ (by exact C1) Try.underlying24 rfl (by kernel_rfl) ?_))
  refine (HN.out _).mono ?_
  rintro e w2 ⟨g, gl, cp, rfl, M2, hb2⟩
  have g0 := M2.g0
  have gl0 := M2.gl0
  have lm2 := M2.lt
  rw [World.size_alloc] at g0 gl0
  have C2 := C1.keep hb2
  have hw2 := hw1.trans (hb2.mono (by rw [World.size_alloc]; omega))
  obtain ⟨gc, hgc⟩ : ∃ u, u = w1.heap.size := ⟨_, rfl⟩
  have A3 := Bk.new w2 (wcs (List.replicate N wz)) 46
  have bA : Below w2.heap.size w2 (w2.alloc (.cells (wcs (List.replicate N wz)) 46)) := (Below.refl _ _).alloc (Nat.le_refl _) _
  have B4 := Bk.new (w2.alloc (.cells (wcs (List.replicate N wz)) 46)) (bv (List.replicate N false)) 4
  have bB : Below (w2.alloc (.cells (wcs (List.replicate N wz)) 46)).heap.size (w2.alloc (.cells (wcs (List.replicate N wz)) 46)) ((w2.alloc (.cells (wcs (List.replicate N wz)) 46)).alloc (.cells (bv (List.replicate N false)) 4)) := (Below.refl _ _).alloc (Nat.le_refl _) _
  have E4 : Eb w (cEh N) w1.heap.size g gl cp w2.heap.size (w2.heap.size + 1) a0 L0 (List.replicate N wz) (List.replicate N false) ((w2.alloc (.cells (wcs (List.replicate N wz)) 46)).alloc (.cells (bv (List.replicate N false)) 4)) :=
    ⟨(C2.keep bA).keep bB, ((M2.base (by rw [World.size_alloc]; omega)).keep bA).keep bB, A3.keep bB, by rw [World.size_alloc] at B4; exact B4, (hw2.trans (bA.mono hw2.size)).trans (bB.mono (by have := hw2.size; rw [World.size_alloc]; omega)), sz1, by omega, by omega, by omega, by omega, by omega⟩
  have c2 := C2.cells
  have c3 := (C2.keep bA).cells
  clear bA bB A3 B4 M2 hb2 hw1 hw2 C1 hgc gc
  go_wp2_with (first | (refine make_works Try.underlying55 rfl _ _ rfl N rfl rfl (by omega) ?_) | (refine make_bools Try.underlying57 infoB (by decide) rfl _ _ rfl N rfl rfl (by omega) ?_))
  obtain ⟨wq, hwq⟩ : ∃ u, u = (w2.alloc (.cells (wcs (List.replicate N wz)) 46)).alloc (.cells (bv (List.replicate N false)) 4) := ⟨_, rfl⟩
  rw [← hwq] at E4 ⊢
  clear hwq c2 c3 C2
  generalize w2.heap.size = ga at *
  generalize w1.heap.size = gc at *
  clear g0 gl0 lm2 sz1
  go_loopw [10] (fun ii wr => ∃ (k : Nat) (L : List Int) (xs : List Wk) (I : List Bool) (a : Acc), ii = .int .i64 k ∧ k ≤ pk.length ∧ EI N k L (xs.map (·.p)) I ∧ (∀ s ∈ xs, Emp s) ∧ Eb w (cEh N) gc g gl cp ga (ga + 1) a L xs I wr) (fun ii _ => pk.length - (intOf ii).toNat)
  case atStart => exact ⟨0, L0, List.replicate N wz, List.replicate N false, a0, rfl, by omega, HST.out, fun s hs => by rw [(List.mem_replicate.1 hs).2]; exact emp_z, E4⟩
  case round =>
    clear E4
    obtain ⟨k, L, xs, I, a, rfl, hk, HI, HE, E⟩ := hrel
    by_cases hlt : k < pk.length
    · have hdk : decide ((k : Int) < (pk.length : Int)) = true := by simp; omega
      have hcp := (E.hb.cell (p := ⟨bp, op + k, none⟩) hbp).trans (HC.out k hlt)
      obtain ⟨pv, hpv⟩ : ∃ x, x = pk[k] := ⟨_, rfl⟩
      have hpr : 0 ≤ pv ∧ pv < 256 := by rw [hpv]; exact HPK.out _ (List.getElem_mem hlt)
      have HCK := Lib.hid (show w.cell? ⟨bp, op + k, none⟩ = some (.int .u8 pv) by rw [hpv]; exact HC.out k hlt)
      rw [← hpv] at hcp
      have lbp : bp < wr.heap.size := Nat.lt_of_lt_of_le hbp E.hb.size
      have lgc : gc < wr.heap.size := E.C.lt
      have cx := E.C.cells
      have hN0 : ((N : Int) == 0) = false := by simp; omega
      obtain ⟨wn, hwn⟩ : ∃ m : Nat, (m : Int) = pv % (N : Int) := ⟨(pv % (N : Int)).toNat, by have := Int.emod_nonneg pv (show (N : Int) ≠ 0 by omega); omega⟩
      have hwN : wn < N := by have := Int.emod_lt_of_pos pv (show (0 : Int) < (N : Int) by omega); omega
      have HWT := Lib.hid hwn.symm
      have HWT2 := Lib.hid (show pv.tmod (N : Int) = (wn : Int) by rw [Int.tmod_eq_emod_of_nonneg hpr.1]; exact hwn.symm)
      have hxl : xs.length = N := by have := HI.nP; simpa using this
      clear hpv hwn
      go_wp2
      refine wp_region_grown (by kernel_rfl) (by kernel_rfl) ?_
      have hg := @gcell
      repeat (go_big_quiet_step (fail))
      refine wpQuiet_nil ?_
      rintro w7 ⟨⟨_, hb7⟩, rfl⟩
      clear hg
      have E7 := E.keep hb7
      clear E hcp cx lbp lgc hb7
      try rw [HWT2.out]
      try rw [HWT.out]
      have hx0 : wn < xs.length := by omega
      have hxI : wn < I.length := by have := HI.nI; omega
      obtain ⟨s0, hs0⟩ : ∃ s, s = xs[wn] := ⟨_, rfl⟩
      have HRG := wcs_range E7.A hx0
      rw [← hs0] at HRG
      have hp0 : pL (xs.map (·.p)) wn = s0.p := by rw [map_p_get _ _ hx0, hs0]
      have hE0 : Emp s0 := hs0 ▸ HE _ (List.getElem_mem hx0)
      have hprs := HI.pr wn hwN
      rw [hp0] at hprs
      have hi8 : k ≤ 800 := by omega
      have hm := HI.m
      have hwr := HI.wr
      have hrow : wn * 33 + 33 ≤ (wcs xs).size := by rw [wcs_size]; omega
      have Z8 := Bk.new w7 (wc wz) 46
      have X8 := boxed_bk w7 s0
      have bb8 := boxed_below w7 s0
      have E8 := E7.keep bb8
      have lb : ga + 1 < w7.heap.size := E7.B.lt
      have o4 := E7.o4
      have o5 := E7.o5
      have hbI : iL I wn = I[wn] := by unfold iL; rw [List.getD_eq_getElem?_getD, List.getElem?_eq_getElem hxI]; rfl
      obtain ⟨w8, hw8⟩ : ∃ u, u = (w7.alloc (.cells (wc wz) 46)).setRow w7.heap.size (wc s0) := ⟨_, rfl⟩
      rw [← hw8] at X8 E8
      have HW8 := Lib.hid hw8
      have HEE := Lib.hid HE
      clear hw8 bb8 hs0 HE E7
      have f0 : ∀ s : Wk, (wc s)[0]? = some (.int .i64 s.p.ln) := fun _ => rfl
      by_cases hl0 : s0.p.ln = 0
      · have t0 : (s0.p.ln == 0) = true := by simp [hl0]
        by_cases hd : pv / 8 % 3 = 0
        · have qd1 : (pv / 8 % 3 != 0) = false := by simp [hd]
          have qd2 : ((pv.tdiv 8).tmod 3 != 0) = false := by rw [Int.tdiv_eq_ediv_of_nonneg hpr.1, Int.tmod_eq_emod_of_nonneg (by omega)]; simp [hd]
          have x80q : True := trivial
          have xw80 : w8.cell? ⟨w7.heap.size, 0, none⟩ = some (.int .i64 s0.p.ln) := (X8.cells 0).trans (f0 _)
          have zw8 := X8.frozen
          have Ewa := E8.far lb 0 (.int .i64 70)
          have Xwa : Bk _ w7.heap.size (wc ({ s0 with p := { s0.p with ln := 70 } } : Wk)) 46 := X8.setCell 0 (.int .i64 70)
          obtain ⟨wa, hwa⟩ : ∃ u, u = w8.setCell ⟨w7.heap.size, 0, none⟩ (.int .i64 70) := ⟨_, rfl⟩
          rw [← hwa] at Ewa Xwa
          have Hwa := Lib.hid hwa
          clear hwa
          have hcpa : wa.cell? ⟨bp, op + k, none⟩ = some (.int .u8 pv) := (Ewa.hb.cell (p := ⟨bp, op + k, none⟩) hbp).trans HCK.out
          have xl90 : wa.cell? ⟨w7.heap.size, 0, none⟩ = some (.int .i64 70) := (Xwa.cells 0).trans (f0 _)
          have HK := eh70 (a := a) HI hN8 hwN (by rw [hp0]; exact hl0)
          rw [hp0] at HK
          unfold Eh at HK
          have hs := epochStepAny Ewa.M (cEh_wf hN8) hm hwr ({ s0 with p := { s0.p with ln := 70 } } : Wk) { zS with p := { s0.p with ln := 70 } } (few_zz _) (hE0.plain { s0.p with ln := 70 } wa) ⟨hprs.1.ep, hprs.1.h, hprs.1.n, hprs.1.v, hprs.1.u, hprs.1.g, hprs.1.t⟩ (wn : Int)
          obtain ⟨r, hr⟩ : ∃ r, r = (epochLn (cEh N) a L { s0.p with ln := 70 } (wn : Int)).fin := ⟨_, rfl⟩
          rw [← hr] at HK
          have hs2 : Calls Try.prog 28 #[.pointer (some ⟨g, 0, none⟩), .int .i64 (wn : Int), wv ({ s0 with p := { s0.p with ln := 70 } } : Wk)] wa (GPost w.heap.size g gl cp (cEh N) r { zS with p := { s0.p with ln := 70 } } wa) := by rw [hr]; exact hs
          obtain ⟨⟨hok, hEI⟩, hwy⟩ := HK
          unfold GPost at hs2
          rw [hok] at hs2
          have HS := Lib.hid hs2
          clear hs hs2 hok hr
          have tw : (r.way == 1) = false := by rw [hwy]; rfl
          rw [iset hxI] at hEI
          clear hl0 hp0 hprs hE0 hbI hwy hd
          go_wp2_with (first | (rw [← Hwa.out]; clear Hwa xw80 zw8) | (refine wpList_load_mid rfl 46 _ rfl ga (wn * 33) rfl (wc s0).toList _ (by exact HRG) Try.underlying46 rfl (by kernel_rfl) ?_) | ((with_reducible refine wpList_alloc_wz rfl rfl ?_)) | ((refine wpList_store_row rfl 46 _ _ rfl (w7.heap.size) (wc s0) rfl rfl _ _ (by exact Z8) (by kernel_rfl) (by kernel_rfl) (by kernel_rfl) ?_); rw [← HW8.out]; clear HW8 Z8 HRG) | (refine wpList_load_row rfl 46 _ rfl (w7.heap.size) rfl _ (wc ({ s0 with p := { s0.p with ln := 70 } } : Wk)) (0, 0) _ (by exact Xwa) Try.underlying46 rfl (by kernel_rfl) ?_))
          refine HS.out.mono ?_
          rintro e u9 ⟨s2, rfl, A9, M9, T9⟩
          obtain ⟨hem, hp2⟩ := Emp.of A9
          have E9 := Ewa.touch M9 T9
          have X9 := T9.bk Xwa (by omega) (by omega)
          have Z10 := Bk.new u9 (wc wz) 46
          have Y10 := boxed_bk u9 s2
          have bb10 := boxed_below u9 s2
          have E10 := E9.keep bb10
          have X10 := X9.keep bb10
          have lx10 := X9.lt
          obtain ⟨w10, hw10⟩ : ∃ u, u = (u9.alloc (.cells (wc wz) 46)).setRow u9.heap.size (wc s2) := ⟨_, rfl⟩
          rw [← hw10] at Y10 E10 X10
          have HW10 := Lib.hid hw10
          clear hw10 bb10 A9 M9 T9 E9 X9 HS Ewa Xwa
          have c10 : w10.cell? ⟨w7.heap.size, 0, none⟩ = some (.int .i64 70) := (X10.cells 0).trans (f0 _)
          have E11 := E10
          have Y11 := Y10
          clear E10 Y10
          have E12 := E11.setA (xs.set wn s2)
          obtain ⟨w12, hw12⟩ : ∃ u, u = w10.setRow ga (wcs (xs.set wn s2)) := ⟨_, rfl⟩
          rw [← hw12] at E12
          have HW12 := Lib.hid hw12
          clear hw12
          go_wp2_with (first | ((with_reducible refine wpList_alloc_wz rfl rfl ?_)) | ((refine wpList_store_row rfl 46 _ _ rfl (u9.heap.size) (wc s2) rfl rfl _ _ (by exact Z10) (by kernel_rfl) (by kernel_rfl) (by kernel_rfl) ?_); rw [← HW10.out]; clear HW10 Z10) | (refine wpList_load_row rfl 46 _ rfl (u9.heap.size) rfl _ (wc s2) (0, 0) _ (by exact Y11) Try.underlying46 rfl (by kernel_rfl) ?_) | ((with_reducible refine Sub.wpList_store_sub rfl 46 _ _ rfl ga (wn * 33) (wc s2) ?_ ?_ 46 (wcs xs) (wcs (xs.set wn s2)) ?_ ?_ ?_ ?_ ?_ ?_); exact rfl; exact rfl; exact E11.A; kernel_rfl; exact hrow; kernel_rfl; exact wcs_set hx0 s2; rw [← HW12.out]; clear HW12 E11 Y11))
          refine (peek_any E12.M (by have := hEI.m; omega) 0).mono ?_
          rintro e w13 ⟨rfl, rfl⟩
          have hnow : ldV r.L 0 = gL r.L := gL_ld (by have := hEI.len; omega)
          rw [hnow]
          have hEI2 : EI N (k + 1) r.L ((xs.set wn s2).map (·.p)) (I) := by rw [List.map_set, hp2]; exact hEI
          have hEM : ∀ s ∈ xs.set wn s2, Emp s := fun s hs => by
            rcases List.mem_or_eq_of_mem_set hs with q | rfl
            · exact HEE.out s q
            · exact hem
          obtain ⟨ys, hys⟩ : ∃ ys, ys = xs.set wn s2 := ⟨_, rfl⟩
          obtain ⟨J, hJ⟩ : ∃ J : List Bool, J = (I) := ⟨_, rfl⟩
          rw [← hys] at hEI2 hEM E12
          rw [← hJ] at hEI2 E12
          have hyl : ys.length = N := by rw [hys, List.length_set]; exact hxl
          have hJl : J.length = N := hEI2.nI
          obtain ⟨G, hG⟩ : ∃ G, G = gL r.L := ⟨_, rfl⟩
          rw [← hG]
          have HEI2 := Lib.hid hEI2
          have HEM := Lib.hid hEM
          have HGG := Lib.hid hG
          have hsumk : IntKind.i64.wrap ((k : Int) + 1) = (k : Int) + 1 := IntWalk.i64_in _ (by omega)
          clear hEI2 hEM hG hys hJ hEI hp2 hem hnow tw t0 qd1 qd2
          go_wp2
          go_loopw [17] (fun kk wi => wi = w12 ∧ ∃ m : Nat, kk = .int .i64 m ∧ m ≤ N) (fun kk _ => N - (intOf kk).toNat)
          case atStart => exact ⟨rfl, 0, rfl, by omega⟩
          case round =>
            obtain ⟨hwi, m, rfl, hmN⟩ := hrel
            subst hwi
            have cxi := E12.C.cells
            have hsumm : IntKind.i64.wrap ((m : Int) + 1) = (m : Int) + 1 := IntWalk.i64_in _ (by omega)
            by_cases hmlt : m < N
            · have hdm : decide (m < N) = true := by simp [hmlt]
              have hmJ : m < J.length := by omega
              have hmy : m < ys.length := by omega
              have hcm := E12.B.cells m
              rw [bv_get hmJ] at hcm
              have hins := HEI2.out.ins m hmlt
              have hepr := (HEI2.out.pr m hmlt).2
              rw [map_p_get _ _ hmy, ← HGG.out] at hins hepr
              have hiJ : iL J m = J[m] := by unfold iL; rw [List.getD_eq_getElem?_getD, List.getElem?_eq_getElem hmJ]; rfl
              have hce := wcs_cell E12.A hmy (j := 9) (by omega)
              have f9 : ∀ s : Wk, (wc s)[9]? = some (.int .u64 s.p.ep) := fun _ => rfl
              rw [f9] at hce
              clear f9
              have hpe := (HEI2.out.pr m hmlt).1.ep
              rw [map_p_get _ _ hmy] at hpe
              cases hbm : J[m] with
              | false =>
                rw [hbm] at hcm
                clear hins hepr hiJ hbm hce hpe
                go_wp2
                go_roundw
                case rel => exact ⟨by trivial, m + 1, by go_num, by omega⟩
                case measure => simp [intOf]; omega
              | true =>
                rw [hbm] at hcm
                have h1 := (hins (by rw [hiJ]; exact hbm)).1
                obtain ⟨ep, hep⟩ : ∃ ep, ep = ys[m].p.ep := ⟨_, rfl⟩
                rw [← hep] at h1 hepr hce hpe
                clear hins hiJ hbm hep
                by_cases hge : G = ep
                · have q1 : (G != ep) = false := by simp [hge]
                  clear h1 hepr hpe hge
                  go_wp2
                  go_roundw
                  case rel => exact ⟨by trivial, m + 1, by go_num, by omega⟩
                  case measure => simp [intOf]; omega
                · have hG1 : G = ep + 1 := by omega
                  have hgb := HEI2.out.g
                  rw [← HGG.out] at hgb
                  have q1 : (G != ep) = true := by simp [hge]
                  have q2 : (G != ep + 1) = false := by simp [hG1]
                  have q3 : (G != IntKind.u64.wrap (ep + 1)) = false := by rw [IntKind.wrap_u64, Int.emod_eq_of_lt (by omega) (by omega)]; simp [hG1]
                  clear h1 hepr hge hG1 hgb
                  go_wp2
                  go_roundw
                  case rel => exact ⟨by trivial, m + 1, by go_num, by omega⟩
                  case measure => simp [intOf]; omega
            · obtain rfl : m = N := by omega
              have hdm : decide (m < m) = false := by simp
              go_wp2
              go_roundw
              case rel => exact ⟨k + 1, r.L, ys, J, r.a, by go_num, by omega, HEI2.out, HEM.out, E12⟩
              case measure => simp [intOf]; omega
        · have qd1 : (pv / 8 % 3 != 0) = true := by simp [hd]
          have qd2 : ((pv.tdiv 8).tmod 3 != 0) = true := by rw [Int.tdiv_eq_ediv_of_nonneg hpr.1, Int.tmod_eq_emod_of_nonneg (by omega)]; simp [hd]
          cases hb : I[wn] with
          | false =>
            have x80q : True := trivial
            have xw80 : w8.cell? ⟨w7.heap.size, 0, none⟩ = some (.int .i64 s0.p.ln) := (X8.cells 0).trans (f0 _)
            have zw8 := X8.frozen
            have Ewa := E8.far lb 0 (.int .i64 70)
            have Xwa : Bk _ w7.heap.size (wc ({ s0 with p := { s0.p with ln := 70 } } : Wk)) 46 := X8.setCell 0 (.int .i64 70)
            obtain ⟨wa, hwa⟩ : ∃ u, u = w8.setCell ⟨w7.heap.size, 0, none⟩ (.int .i64 70) := ⟨_, rfl⟩
            rw [← hwa] at Ewa Xwa
            have Hwa := Lib.hid hwa
            clear hwa
            have hcpa : wa.cell? ⟨bp, op + k, none⟩ = some (.int .u8 pv) := (Ewa.hb.cell (p := ⟨bp, op + k, none⟩) hbp).trans HCK.out
            have hcba : wa.cell? ⟨ga + 1, wn, none⟩ = some (.bool false) := by rw [Ewa.B.cells, bv_get hxI, hb]
            have xwa0 : wa.cell? ⟨w7.heap.size, 0, none⟩ = some (.int .i64 70) := (Xwa.cells 0).trans (f0 _)
            have zwa := Xwa.frozen
            have Ewb := Ewa.far lb 0 (.int .i64 1)
            have Xwb : Bk _ w7.heap.size (wc ({ s0 with p := { s0.p with ln := 1 } } : Wk)) 46 := Xwa.setCell 0 (.int .i64 1)
            obtain ⟨wb, hwb⟩ : ∃ u, u = wa.setCell ⟨w7.heap.size, 0, none⟩ (.int .i64 1) := ⟨_, rfl⟩
            rw [← hwb] at Ewb Xwb
            have Hwb := Lib.hid hwb
            clear hwb
            have hcbb : wb.cell? ⟨ga + 1, wn, none⟩ = some (.bool false) := by rw [Ewb.B.cells, bv_get hxI, hb]
            have xl90 : wb.cell? ⟨w7.heap.size, 0, none⟩ = some (.int .i64 1) := (Xwb.cells 0).trans (f0 _)
            have HK := eh1 (a := a) HI hN8 hwN (by rw [hbI]; exact hb)
            rw [hp0] at HK
            unfold Eh at HK
            have hs := epochStepAny Ewb.M (cEh_wf hN8) hm hwr ({ s0 with p := { s0.p with ln := 1 } } : Wk) { zS with p := { s0.p with ln := 1 } } (few_zz _) (hE0.plain { s0.p with ln := 1 } wb) ⟨hprs.1.ep, hprs.1.h, hprs.1.n, hprs.1.v, hprs.1.u, hprs.1.g, hprs.1.t⟩ (wn : Int)
            obtain ⟨r, hr⟩ : ∃ r, r = (epochLn (cEh N) a L { s0.p with ln := 1 } (wn : Int)).fin := ⟨_, rfl⟩
            rw [← hr] at HK
            have hs2 : Calls Try.prog 28 #[.pointer (some ⟨g, 0, none⟩), .int .i64 (wn : Int), wv ({ s0 with p := { s0.p with ln := 1 } } : Wk)] wb (GPost w.heap.size g gl cp (cEh N) r { zS with p := { s0.p with ln := 1 } } wb) := by rw [hr]; exact hs
            obtain ⟨⟨hok, hEI⟩, hwy⟩ := HK
            unfold GPost at hs2
            rw [hok] at hs2
            have HS := Lib.hid hs2
            clear hs hs2 hok hr
            have tw : (r.way == 1) = false := by rw [hwy]; rfl
            have hsame : I.set wn false = I := by have := iset (I := I) hxI; rw [hbI, hb] at this; exact this
            rw [hsame] at hEI
            clear hsame
            clear hl0 hp0 hprs hE0 hbI hwy hd hb
            go_wp2_with (first | (rw [← Hwa.out]; clear Hwa xw80 zw8) | (rw [← Hwb.out]; clear Hwb hcpa xwa0 zwa) | (refine wpList_load_mid rfl 46 _ rfl ga (wn * 33) rfl (wc s0).toList _ (by exact HRG) Try.underlying46 rfl (by kernel_rfl) ?_) | ((with_reducible refine wpList_alloc_wz rfl rfl ?_)) | ((refine wpList_store_row rfl 46 _ _ rfl (w7.heap.size) (wc s0) rfl rfl _ _ (by exact Z8) (by kernel_rfl) (by kernel_rfl) (by kernel_rfl) ?_); rw [← HW8.out]; clear HW8 Z8 HRG) | (refine wpList_load_row rfl 46 _ rfl (w7.heap.size) rfl _ (wc ({ s0 with p := { s0.p with ln := 1 } } : Wk)) (0, 0) _ (by exact Xwb) Try.underlying46 rfl (by kernel_rfl) ?_))
            refine HS.out.mono ?_
            rintro e u9 ⟨s2, rfl, A9, M9, T9⟩
            obtain ⟨hem, hp2⟩ := Emp.of A9
            have E9 := Ewb.touch M9 T9
            have X9 := T9.bk Xwb (by omega) (by omega)
            have Z10 := Bk.new u9 (wc wz) 46
            have Y10 := boxed_bk u9 s2
            have bb10 := boxed_below u9 s2
            have E10 := E9.keep bb10
            have X10 := X9.keep bb10
            have lx10 := X9.lt
            obtain ⟨w10, hw10⟩ : ∃ u, u = (u9.alloc (.cells (wc wz) 46)).setRow u9.heap.size (wc s2) := ⟨_, rfl⟩
            rw [← hw10] at Y10 E10 X10
            have HW10 := Lib.hid hw10
            clear hw10 bb10 A9 M9 T9 E9 X9 HS Ewb Xwb
            have c10 : w10.cell? ⟨w7.heap.size, 0, none⟩ = some (.int .i64 1) := (X10.cells 0).trans (f0 _)
            have E11 := E10
            have Y11 := Y10
            clear E10 Y10
            have E12 := E11.setA (xs.set wn s2)
            obtain ⟨w12, hw12⟩ : ∃ u, u = w10.setRow ga (wcs (xs.set wn s2)) := ⟨_, rfl⟩
            rw [← hw12] at E12
            have HW12 := Lib.hid hw12
            clear hw12
            go_wp2_with (first | ((with_reducible refine wpList_alloc_wz rfl rfl ?_)) | ((refine wpList_store_row rfl 46 _ _ rfl (u9.heap.size) (wc s2) rfl rfl _ _ (by exact Z10) (by kernel_rfl) (by kernel_rfl) (by kernel_rfl) ?_); rw [← HW10.out]; clear HW10 Z10) | (refine wpList_load_row rfl 46 _ rfl (u9.heap.size) rfl _ (wc s2) (0, 0) _ (by exact Y11) Try.underlying46 rfl (by kernel_rfl) ?_) | ((with_reducible refine Sub.wpList_store_sub rfl 46 _ _ rfl ga (wn * 33) (wc s2) ?_ ?_ 46 (wcs xs) (wcs (xs.set wn s2)) ?_ ?_ ?_ ?_ ?_ ?_); exact rfl; exact rfl; exact E11.A; kernel_rfl; exact hrow; kernel_rfl; exact wcs_set hx0 s2; rw [← HW12.out]; clear HW12 E11 Y11))
            refine (peek_any E12.M (by have := hEI.m; omega) 0).mono ?_
            rintro e w13 ⟨rfl, rfl⟩
            have hnow : ldV r.L 0 = gL r.L := gL_ld (by have := hEI.len; omega)
            rw [hnow]
            have hEI2 : EI N (k + 1) r.L ((xs.set wn s2).map (·.p)) (I) := by rw [List.map_set, hp2]; exact hEI
            have hEM : ∀ s ∈ xs.set wn s2, Emp s := fun s hs => by
              rcases List.mem_or_eq_of_mem_set hs with q | rfl
              · exact HEE.out s q
              · exact hem
            obtain ⟨ys, hys⟩ : ∃ ys, ys = xs.set wn s2 := ⟨_, rfl⟩
            obtain ⟨J, hJ⟩ : ∃ J : List Bool, J = (I) := ⟨_, rfl⟩
            rw [← hys] at hEI2 hEM E12
            rw [← hJ] at hEI2 E12
            have hyl : ys.length = N := by rw [hys, List.length_set]; exact hxl
            have hJl : J.length = N := hEI2.nI
            obtain ⟨G, hG⟩ : ∃ G, G = gL r.L := ⟨_, rfl⟩
            rw [← hG]
            have HEI2 := Lib.hid hEI2
            have HEM := Lib.hid hEM
            have HGG := Lib.hid hG
            have hsumk : IntKind.i64.wrap ((k : Int) + 1) = (k : Int) + 1 := IntWalk.i64_in _ (by omega)
            clear hEI2 hEM hG hys hJ hEI hp2 hem hnow tw t0 qd1 qd2
            go_wp2
            go_loopw [17] (fun kk wi => wi = w12 ∧ ∃ m : Nat, kk = .int .i64 m ∧ m ≤ N) (fun kk _ => N - (intOf kk).toNat)
            case atStart => exact ⟨rfl, 0, rfl, by omega⟩
            case round =>
              obtain ⟨hwi, m, rfl, hmN⟩ := hrel
              subst hwi
              have cxi := E12.C.cells
              have hsumm : IntKind.i64.wrap ((m : Int) + 1) = (m : Int) + 1 := IntWalk.i64_in _ (by omega)
              by_cases hmlt : m < N
              · have hdm : decide (m < N) = true := by simp [hmlt]
                have hmJ : m < J.length := by omega
                have hmy : m < ys.length := by omega
                have hcm := E12.B.cells m
                rw [bv_get hmJ] at hcm
                have hins := HEI2.out.ins m hmlt
                have hepr := (HEI2.out.pr m hmlt).2
                rw [map_p_get _ _ hmy, ← HGG.out] at hins hepr
                have hiJ : iL J m = J[m] := by unfold iL; rw [List.getD_eq_getElem?_getD, List.getElem?_eq_getElem hmJ]; rfl
                have hce := wcs_cell E12.A hmy (j := 9) (by omega)
                have f9 : ∀ s : Wk, (wc s)[9]? = some (.int .u64 s.p.ep) := fun _ => rfl
                rw [f9] at hce
                clear f9
                have hpe := (HEI2.out.pr m hmlt).1.ep
                rw [map_p_get _ _ hmy] at hpe
                cases hbm : J[m] with
                | false =>
                  rw [hbm] at hcm
                  clear hins hepr hiJ hbm hce hpe
                  go_wp2
                  go_roundw
                  case rel => exact ⟨by trivial, m + 1, by go_num, by omega⟩
                  case measure => simp [intOf]; omega
                | true =>
                  rw [hbm] at hcm
                  have h1 := (hins (by rw [hiJ]; exact hbm)).1
                  obtain ⟨ep, hep⟩ : ∃ ep, ep = ys[m].p.ep := ⟨_, rfl⟩
                  rw [← hep] at h1 hepr hce hpe
                  clear hins hiJ hbm hep
                  by_cases hge : G = ep
                  · have q1 : (G != ep) = false := by simp [hge]
                    clear h1 hepr hpe hge
                    go_wp2
                    go_roundw
                    case rel => exact ⟨by trivial, m + 1, by go_num, by omega⟩
                    case measure => simp [intOf]; omega
                  · have hG1 : G = ep + 1 := by omega
                    have hgb := HEI2.out.g
                    rw [← HGG.out] at hgb
                    have q1 : (G != ep) = true := by simp [hge]
                    have q2 : (G != ep + 1) = false := by simp [hG1]
                    have q3 : (G != IntKind.u64.wrap (ep + 1)) = false := by rw [IntKind.wrap_u64, Int.emod_eq_of_lt (by omega) (by omega)]; simp [hG1]
                    clear h1 hepr hge hG1 hgb
                    go_wp2
                    go_roundw
                    case rel => exact ⟨by trivial, m + 1, by go_num, by omega⟩
                    case measure => simp [intOf]; omega
              · obtain rfl : m = N := by omega
                have hdm : decide (m < m) = false := by simp
                go_wp2
                go_roundw
                case rel => exact ⟨k + 1, r.L, ys, J, r.a, by go_num, by omega, HEI2.out, HEM.out, E12⟩
                case measure => simp [intOf]; omega
          | true =>
            have x80q : True := trivial
            have xw80 : w8.cell? ⟨w7.heap.size, 0, none⟩ = some (.int .i64 s0.p.ln) := (X8.cells 0).trans (f0 _)
            have zw8 := X8.frozen
            have Ewa := E8.far lb 0 (.int .i64 70)
            have Xwa : Bk _ w7.heap.size (wc ({ s0 with p := { s0.p with ln := 70 } } : Wk)) 46 := X8.setCell 0 (.int .i64 70)
            obtain ⟨wa, hwa⟩ : ∃ u, u = w8.setCell ⟨w7.heap.size, 0, none⟩ (.int .i64 70) := ⟨_, rfl⟩
            rw [← hwa] at Ewa Xwa
            have Hwa := Lib.hid hwa
            clear hwa
            have hcpa : wa.cell? ⟨bp, op + k, none⟩ = some (.int .u8 pv) := (Ewa.hb.cell (p := ⟨bp, op + k, none⟩) hbp).trans HCK.out
            have hcba : wa.cell? ⟨ga + 1, wn, none⟩ = some (.bool true) := by rw [Ewa.B.cells, bv_get hxI, hb]
            have xwa0 : wa.cell? ⟨w7.heap.size, 0, none⟩ = some (.int .i64 70) := (Xwa.cells 0).trans (f0 _)
            have zwa := Xwa.frozen
            have Ewb := Ewa.far lb 0 (.int .i64 1)
            have Xwb : Bk _ w7.heap.size (wc ({ s0 with p := { s0.p with ln := 1 } } : Wk)) 46 := Xwa.setCell 0 (.int .i64 1)
            obtain ⟨wb, hwb⟩ : ∃ u, u = wa.setCell ⟨w7.heap.size, 0, none⟩ (.int .i64 1) := ⟨_, rfl⟩
            rw [← hwb] at Ewb Xwb
            have Hwb := Lib.hid hwb
            clear hwb
            have hcbb : wb.cell? ⟨ga + 1, wn, none⟩ = some (.bool true) := by rw [Ewb.B.cells, bv_get hxI, hb]
            have xwb0 : wb.cell? ⟨w7.heap.size, 0, none⟩ = some (.int .i64 1) := (Xwb.cells 0).trans (f0 _)
            have zwb := Xwb.frozen
            have Ewc' := Ewb.far lb 0 (.int .i64 90)
            have Xwc' : Bk _ w7.heap.size (wc ({ s0 with p := { s0.p with ln := 90 } } : Wk)) 46 := Xwb.setCell 0 (.int .i64 90)
            obtain ⟨wc', hwc'⟩ : ∃ u, u = wb.setCell ⟨w7.heap.size, 0, none⟩ (.int .i64 90) := ⟨_, rfl⟩
            rw [← hwc'] at Ewc' Xwc'
            have Hwc' := Lib.hid hwc'
            clear hwc'
            have hcbc : wc'.cell? ⟨ga + 1, wn, none⟩ = some (.bool true) := by rw [Ewc'.B.cells, bv_get hxI, hb]
            have hfbc : wc'.frozen? ⟨ga + 1, wn, none⟩ = false := Ewc'.B.frozen wn
            have xc90 : wc'.cell? ⟨w7.heap.size, 0, none⟩ = some (.int .i64 90) := (Xwc'.cells 0).trans (f0 _)
            have Ewd := Ewc'.setB wn false
            have Xwd := Xwc'.setCell_far (a := ⟨ga + 1, wn, none⟩) (by simp; omega) (.bool false)
            obtain ⟨wd, hwd⟩ : ∃ u, u = wc'.setCell ⟨ga + 1, wn, none⟩ (.bool false) := ⟨_, rfl⟩
            rw [← hwd] at Ewd Xwd
            have Hwd := Lib.hid hwd
            clear hwd
            have hxI2 : wn < (I.set wn false).length := by simpa using hxI
            have HK := eh90 (a := a) HI hN8 hi8 hwN
            rw [hp0] at HK
            unfold Eh at HK
            have hs := epochStepAny Ewd.M (cEh_wf hN8) hm hwr ({ s0 with p := { s0.p with ln := 90 } } : Wk) { zS with p := { s0.p with ln := 90 } } (few_zz _) (hE0.plain { s0.p with ln := 90 } wd) ⟨hprs.1.ep, hprs.1.h, hprs.1.n, hprs.1.v, hprs.1.u, hprs.1.g, hprs.1.t⟩ (wn : Int)
            obtain ⟨r, hr⟩ : ∃ r, r = (epochLn (cEh N) a L { s0.p with ln := 90 } (wn : Int)).fin := ⟨_, rfl⟩
            rw [← hr] at HK
            have hs2 : Calls Try.prog 28 #[.pointer (some ⟨g, 0, none⟩), .int .i64 (wn : Int), wv ({ s0 with p := { s0.p with ln := 90 } } : Wk)] wd (GPost w.heap.size g gl cp (cEh N) r { zS with p := { s0.p with ln := 90 } } wd) := by rw [hr]; exact hs
            obtain ⟨⟨hok, hEI⟩, hwy⟩ := HK
            unfold GPost at hs2
            rw [hok] at hs2
            have HS := Lib.hid hs2
            clear hs hs2 hok hr
            have tw : (r.way == 1) = true := by rw [hwy]; rfl
            clear hl0 hp0 hprs hE0 hbI hwy hd hb
            go_wp2_with (first | (rw [← Hwa.out]; clear Hwa xw80 zw8) | (rw [← Hwb.out]; clear Hwb hcpa xwa0 zwa) | (rw [← Hwc'.out]; clear Hwc' xwb0 zwb) | (rw [← Hwd.out]; clear Hwd hcbc hfbc xc90) | (refine wpList_load_mid rfl 46 _ rfl ga (wn * 33) rfl (wc s0).toList _ (by exact HRG) Try.underlying46 rfl (by kernel_rfl) ?_) | ((with_reducible refine wpList_alloc_wz rfl rfl ?_)) | ((refine wpList_store_row rfl 46 _ _ rfl (w7.heap.size) (wc s0) rfl rfl _ _ (by exact Z8) (by kernel_rfl) (by kernel_rfl) (by kernel_rfl) ?_); rw [← HW8.out]; clear HW8 Z8 HRG) | (refine wpList_load_row rfl 46 _ rfl (w7.heap.size) rfl _ (wc ({ s0 with p := { s0.p with ln := 90 } } : Wk)) (0, 0) _ (by exact Xwd) Try.underlying46 rfl (by kernel_rfl) ?_))
            refine HS.out.mono ?_
            rintro e u9 ⟨s2, rfl, A9, M9, T9⟩
            obtain ⟨hem, hp2⟩ := Emp.of A9
            have E9 := Ewd.touch M9 T9
            have X9 := T9.bk Xwd (by omega) (by omega)
            have Z10 := Bk.new u9 (wc wz) 46
            have Y10 := boxed_bk u9 s2
            have bb10 := boxed_below u9 s2
            have E10 := E9.keep bb10
            have X10 := X9.keep bb10
            have lx10 := X9.lt
            obtain ⟨w10, hw10⟩ : ∃ u, u = (u9.alloc (.cells (wc wz) 46)).setRow u9.heap.size (wc s2) := ⟨_, rfl⟩
            rw [← hw10] at Y10 E10 X10
            have HW10 := Lib.hid hw10
            clear hw10 bb10 A9 M9 T9 E9 X9 HS Ewd Xwd
            have c10 : w10.cell? ⟨w7.heap.size, 0, none⟩ = some (.int .i64 90) := (X10.cells 0).trans (f0 _)
            have E11 := E10
            have Y11 := Y10
            clear E10 Y10
            have E12 := E11.setA (xs.set wn s2)
            obtain ⟨w12, hw12⟩ : ∃ u, u = w10.setRow ga (wcs (xs.set wn s2)) := ⟨_, rfl⟩
            rw [← hw12] at E12
            have HW12 := Lib.hid hw12
            clear hw12
            go_wp2_with (first | ((with_reducible refine wpList_alloc_wz rfl rfl ?_)) | ((refine wpList_store_row rfl 46 _ _ rfl (u9.heap.size) (wc s2) rfl rfl _ _ (by exact Z10) (by kernel_rfl) (by kernel_rfl) (by kernel_rfl) ?_); rw [← HW10.out]; clear HW10 Z10) | (refine wpList_load_row rfl 46 _ rfl (u9.heap.size) rfl _ (wc s2) (0, 0) _ (by exact Y11) Try.underlying46 rfl (by kernel_rfl) ?_) | ((with_reducible refine Sub.wpList_store_sub rfl 46 _ _ rfl ga (wn * 33) (wc s2) ?_ ?_ 46 (wcs xs) (wcs (xs.set wn s2)) ?_ ?_ ?_ ?_ ?_ ?_); exact rfl; exact rfl; exact E11.A; kernel_rfl; exact hrow; kernel_rfl; exact wcs_set hx0 s2; rw [← HW12.out]; clear HW12 E11 Y11))
            refine (peek_any E12.M (by have := hEI.m; omega) 0).mono ?_
            rintro e w13 ⟨rfl, rfl⟩
            have hnow : ldV r.L 0 = gL r.L := gL_ld (by have := hEI.len; omega)
            rw [hnow]
            have hEI2 : EI N (k + 1) r.L ((xs.set wn s2).map (·.p)) (I.set wn false) := by rw [List.map_set, hp2]; exact hEI
            have hEM : ∀ s ∈ xs.set wn s2, Emp s := fun s hs => by
              rcases List.mem_or_eq_of_mem_set hs with q | rfl
              · exact HEE.out s q
              · exact hem
            obtain ⟨ys, hys⟩ : ∃ ys, ys = xs.set wn s2 := ⟨_, rfl⟩
            obtain ⟨J, hJ⟩ : ∃ J : List Bool, J = (I.set wn false) := ⟨_, rfl⟩
            rw [← hys] at hEI2 hEM E12
            rw [← hJ] at hEI2 E12
            have hyl : ys.length = N := by rw [hys, List.length_set]; exact hxl
            have hJl : J.length = N := hEI2.nI
            obtain ⟨G, hG⟩ : ∃ G, G = gL r.L := ⟨_, rfl⟩
            rw [← hG]
            have HEI2 := Lib.hid hEI2
            have HEM := Lib.hid hEM
            have HGG := Lib.hid hG
            have hsumk : IntKind.i64.wrap ((k : Int) + 1) = (k : Int) + 1 := IntWalk.i64_in _ (by omega)
            clear hEI2 hEM hG hys hJ hEI hp2 hem hnow tw t0 qd1 qd2
            go_wp2
            go_loopw [17] (fun kk wi => wi = w12 ∧ ∃ m : Nat, kk = .int .i64 m ∧ m ≤ N) (fun kk _ => N - (intOf kk).toNat)
            case atStart => exact ⟨rfl, 0, rfl, by omega⟩
            case round =>
              obtain ⟨hwi, m, rfl, hmN⟩ := hrel
              subst hwi
              have cxi := E12.C.cells
              have hsumm : IntKind.i64.wrap ((m : Int) + 1) = (m : Int) + 1 := IntWalk.i64_in _ (by omega)
              by_cases hmlt : m < N
              · have hdm : decide (m < N) = true := by simp [hmlt]
                have hmJ : m < J.length := by omega
                have hmy : m < ys.length := by omega
                have hcm := E12.B.cells m
                rw [bv_get hmJ] at hcm
                have hins := HEI2.out.ins m hmlt
                have hepr := (HEI2.out.pr m hmlt).2
                rw [map_p_get _ _ hmy, ← HGG.out] at hins hepr
                have hiJ : iL J m = J[m] := by unfold iL; rw [List.getD_eq_getElem?_getD, List.getElem?_eq_getElem hmJ]; rfl
                have hce := wcs_cell E12.A hmy (j := 9) (by omega)
                have f9 : ∀ s : Wk, (wc s)[9]? = some (.int .u64 s.p.ep) := fun _ => rfl
                rw [f9] at hce
                clear f9
                have hpe := (HEI2.out.pr m hmlt).1.ep
                rw [map_p_get _ _ hmy] at hpe
                cases hbm : J[m] with
                | false =>
                  rw [hbm] at hcm
                  clear hins hepr hiJ hbm hce hpe
                  go_wp2
                  go_roundw
                  case rel => exact ⟨by trivial, m + 1, by go_num, by omega⟩
                  case measure => simp [intOf]; omega
                | true =>
                  rw [hbm] at hcm
                  have h1 := (hins (by rw [hiJ]; exact hbm)).1
                  obtain ⟨ep, hep⟩ : ∃ ep, ep = ys[m].p.ep := ⟨_, rfl⟩
                  rw [← hep] at h1 hepr hce hpe
                  clear hins hiJ hbm hep
                  by_cases hge : G = ep
                  · have q1 : (G != ep) = false := by simp [hge]
                    clear h1 hepr hpe hge
                    go_wp2
                    go_roundw
                    case rel => exact ⟨by trivial, m + 1, by go_num, by omega⟩
                    case measure => simp [intOf]; omega
                  · have hG1 : G = ep + 1 := by omega
                    have hgb := HEI2.out.g
                    rw [← HGG.out] at hgb
                    have q1 : (G != ep) = true := by simp [hge]
                    have q2 : (G != ep + 1) = false := by simp [hG1]
                    have q3 : (G != IntKind.u64.wrap (ep + 1)) = false := by rw [IntKind.wrap_u64, Int.emod_eq_of_lt (by omega) (by omega)]; simp [hG1]
                    clear h1 hepr hge hG1 hgb
                    go_wp2
                    go_roundw
                    case rel => exact ⟨by trivial, m + 1, by go_num, by omega⟩
                    case measure => simp [intOf]; omega
              · obtain rfl : m = N := by omega
                have hdm : decide (m < m) = false := by simp
                go_wp2
                go_roundw
                case rel => exact ⟨k + 1, r.L, ys, J, r.a, by go_num, by omega, HEI2.out, HEM.out, E12⟩
                case measure => simp [intOf]; omega
      · have t0 : (s0.p.ln == 0) = false := by simp [hl0]
        have hlns := HI.ln wn hwN
        rw [hp0] at hlns
        have t90 : (s0.p.ln == 90) = false := by simp; omega
        have HK := eh_on (a := a) HI hN8 hi8 hwN (by rw [hp0]; exact hl0)
        rw [hp0] at HK
        unfold Eh at HK
        have hs := epochStepAny E8.M (cEh_wf hN8) hm hwr s0 { zS with p := s0.p } (few_zz _) (hE0 w8) hprs.1 (wn : Int)
        obtain ⟨r, hr⟩ : ∃ r, r = (epochLn (cEh N) a L s0.p (wn : Int)).fin := ⟨_, rfl⟩
        rw [← hr] at HK
        have hs2 : Calls Try.prog 28 #[.pointer (some ⟨g, 0, none⟩), .int .i64 (wn : Int), wv s0] w8 (GPost w.heap.size g gl cp (cEh N) r { zS with p := s0.p } w8) := by rw [hr]; exact hs
        obtain ⟨b', ⟨hok, hEI⟩, hcase⟩ := HK
        unfold GPost at hs2
        rw [hok] at hs2
        have HS := Lib.hid hs2
        clear hs hs2 hok hr
        have x80 : w8.cell? ⟨w7.heap.size, 0, none⟩ = some (.int .i64 s0.p.ln) := (X8.cells 0).trans (f0 _)
        rcases hcase with ⟨hwy, hl3, rfl⟩ | ⟨hwy, rfl⟩ | ⟨hwy, hl3, rfl⟩
        · have tw : (r.way == 1) = true := by simp [hwy]
          have t3 : (s0.p.ln == 3) = true := by simp [hl3]
          clear hl0 hlns hp0 hprs hE0 hbI hwy hl3
          go_wp2_with (first | (refine wpList_load_mid rfl 46 _ rfl ga (wn * 33) rfl (wc s0).toList _ (by exact HRG) Try.underlying46 rfl (by kernel_rfl) ?_) | ((with_reducible refine wpList_alloc_wz rfl rfl ?_)) | ((refine wpList_store_row rfl 46 _ _ rfl (w7.heap.size) (wc s0) rfl rfl _ _ (by exact Z8) (by kernel_rfl) (by kernel_rfl) (by kernel_rfl) ?_); rw [← HW8.out]; clear HW8 Z8 HRG) | (refine wpList_load_row rfl 46 _ rfl (w7.heap.size) rfl _ (wc s0) (0, 0) _ (by exact X8) Try.underlying46 rfl (by kernel_rfl) ?_))
          clear x80
          refine HS.out.mono ?_
          rintro e u9 ⟨s2, rfl, A9, M9, T9⟩
          obtain ⟨hem, hp2⟩ := Emp.of A9
          have E9 := E8.touch M9 T9
          have X9 := T9.bk X8 (by omega) (by omega)
          have Z10 := Bk.new u9 (wc wz) 46
          have Y10 := boxed_bk u9 s2
          have bb10 := boxed_below u9 s2
          have E10 := E9.keep bb10
          have X10 := X9.keep bb10
          have lx10 := X9.lt
          obtain ⟨w10, hw10⟩ : ∃ u, u = (u9.alloc (.cells (wc wz) 46)).setRow u9.heap.size (wc s2) := ⟨_, rfl⟩
          rw [← hw10] at Y10 E10 X10
          have HW10 := Lib.hid hw10
          clear hw10 bb10 A9 M9 T9 E9 X9 HS E8 X8
          have c10 : w10.cell? ⟨w7.heap.size, 0, none⟩ = some (.int .i64 s0.p.ln) := (X10.cells 0).trans (f0 _)
          have hcb : w10.cell? ⟨ga + 1, wn, none⟩ = some (.bool I[wn]) := by rw [E10.B.cells, bv_get hxI]
          have hfb : w10.frozen? ⟨ga + 1, wn, none⟩ = false := E10.B.frozen wn
          have E11 := E10.setB wn true
          have Y11 := Y10.setCell_far (a := ⟨ga + 1, wn, none⟩) (by simp; omega) (.bool true)
          obtain ⟨w11, hw11⟩ : ∃ u, u = w10.setCell ⟨ga + 1, wn, none⟩ (.bool true) := ⟨_, rfl⟩
          rw [← hw11] at E11 Y11
          have HW11 := Lib.hid hw11
          clear hw11 E10 Y10
          have E12 := E11.setA (xs.set wn s2)
          obtain ⟨w12, hw12⟩ : ∃ u, u = w11.setRow ga (wcs (xs.set wn s2)) := ⟨_, rfl⟩
          rw [← hw12] at E12
          have HW12 := Lib.hid hw12
          clear hw12
          go_wp2_with (first | ((with_reducible refine wpList_alloc_wz rfl rfl ?_)) | ((refine wpList_store_row rfl 46 _ _ rfl (u9.heap.size) (wc s2) rfl rfl _ _ (by exact Z10) (by kernel_rfl) (by kernel_rfl) (by kernel_rfl) ?_); rw [← HW10.out]; clear HW10 Z10) | (rw [← HW11.out]; clear HW11 hcb hfb c10) | (refine wpList_load_row rfl 46 _ rfl (u9.heap.size) rfl _ (wc s2) (0, 0) _ (by exact Y11) Try.underlying46 rfl (by kernel_rfl) ?_) | ((with_reducible refine Sub.wpList_store_sub rfl 46 _ _ rfl ga (wn * 33) (wc s2) ?_ ?_ 46 (wcs xs) (wcs (xs.set wn s2)) ?_ ?_ ?_ ?_ ?_ ?_); exact rfl; exact rfl; exact E11.A; kernel_rfl; exact hrow; kernel_rfl; exact wcs_set hx0 s2; rw [← HW12.out]; clear HW12 E11 Y11))
          refine (peek_any E12.M (by have := hEI.m; omega) 0).mono ?_
          rintro e w13 ⟨rfl, rfl⟩
          have hnow : ldV r.L 0 = gL r.L := gL_ld (by have := hEI.len; omega)
          rw [hnow]
          have hEI2 : EI N (k + 1) r.L ((xs.set wn s2).map (·.p)) (I.set wn true) := by rw [List.map_set, hp2]; exact hEI
          have hEM : ∀ s ∈ xs.set wn s2, Emp s := fun s hs => by
            rcases List.mem_or_eq_of_mem_set hs with q | rfl
            · exact HEE.out s q
            · exact hem
          obtain ⟨ys, hys⟩ : ∃ ys, ys = xs.set wn s2 := ⟨_, rfl⟩
          obtain ⟨J, hJ⟩ : ∃ J : List Bool, J = (I.set wn true) := ⟨_, rfl⟩
          rw [← hys] at hEI2 hEM E12
          rw [← hJ] at hEI2 E12
          have hyl : ys.length = N := by rw [hys, List.length_set]; exact hxl
          have hJl : J.length = N := hEI2.nI
          obtain ⟨G, hG⟩ : ∃ G, G = gL r.L := ⟨_, rfl⟩
          rw [← hG]
          have HEI2 := Lib.hid hEI2
          have HEM := Lib.hid hEM
          have HGG := Lib.hid hG
          have hsumk : IntKind.i64.wrap ((k : Int) + 1) = (k : Int) + 1 := IntWalk.i64_in _ (by omega)
          clear hEI2 hEM hG hys hJ hEI hp2 hem hnow tw t3 t0 t90
          go_wp2
          go_loopw [17] (fun kk wi => wi = w12 ∧ ∃ m : Nat, kk = .int .i64 m ∧ m ≤ N) (fun kk _ => N - (intOf kk).toNat)
          case atStart => exact ⟨rfl, 0, rfl, by omega⟩
          case round =>
            obtain ⟨hwi, m, rfl, hmN⟩ := hrel
            subst hwi
            have cxi := E12.C.cells
            have hsumm : IntKind.i64.wrap ((m : Int) + 1) = (m : Int) + 1 := IntWalk.i64_in _ (by omega)
            by_cases hmlt : m < N
            · have hdm : decide (m < N) = true := by simp [hmlt]
              have hmJ : m < J.length := by omega
              have hmy : m < ys.length := by omega
              have hcm := E12.B.cells m
              rw [bv_get hmJ] at hcm
              have hins := HEI2.out.ins m hmlt
              have hepr := (HEI2.out.pr m hmlt).2
              rw [map_p_get _ _ hmy, ← HGG.out] at hins hepr
              have hiJ : iL J m = J[m] := by unfold iL; rw [List.getD_eq_getElem?_getD, List.getElem?_eq_getElem hmJ]; rfl
              have hce := wcs_cell E12.A hmy (j := 9) (by omega)
              have f9 : ∀ s : Wk, (wc s)[9]? = some (.int .u64 s.p.ep) := fun _ => rfl
              rw [f9] at hce
              clear f9
              have hpe := (HEI2.out.pr m hmlt).1.ep
              rw [map_p_get _ _ hmy] at hpe
              cases hbm : J[m] with
              | false =>
                rw [hbm] at hcm
                clear hins hepr hiJ hbm hce hpe
                go_wp2
                go_roundw
                case rel => exact ⟨by trivial, m + 1, by go_num, by omega⟩
                case measure => simp [intOf]; omega
              | true =>
                rw [hbm] at hcm
                have h1 := (hins (by rw [hiJ]; exact hbm)).1
                obtain ⟨ep, hep⟩ : ∃ ep, ep = ys[m].p.ep := ⟨_, rfl⟩
                rw [← hep] at h1 hepr hce hpe
                clear hins hiJ hbm hep
                by_cases hge : G = ep
                · have q1 : (G != ep) = false := by simp [hge]
                  clear h1 hepr hpe hge
                  go_wp2
                  go_roundw
                  case rel => exact ⟨by trivial, m + 1, by go_num, by omega⟩
                  case measure => simp [intOf]; omega
                · have hG1 : G = ep + 1 := by omega
                  have hgb := HEI2.out.g
                  rw [← HGG.out] at hgb
                  have q1 : (G != ep) = true := by simp [hge]
                  have q2 : (G != ep + 1) = false := by simp [hG1]
                  have q3 : (G != IntKind.u64.wrap (ep + 1)) = false := by rw [IntKind.wrap_u64, Int.emod_eq_of_lt (by omega) (by omega)]; simp [hG1]
                  clear h1 hepr hge hG1 hgb
                  go_wp2
                  go_roundw
                  case rel => exact ⟨by trivial, m + 1, by go_num, by omega⟩
                  case measure => simp [intOf]; omega
            · obtain rfl : m = N := by omega
              have hdm : decide (m < m) = false := by simp
              go_wp2
              go_roundw
              case rel => exact ⟨k + 1, r.L, ys, J, r.a, by go_num, by omega, HEI2.out, HEM.out, E12⟩
              case measure => simp [intOf]; omega
        · have tw : (r.way == 1) = false := by simp [hwy]
          rw [iset hxI] at hEI
          clear hl0 hlns hp0 hprs hE0 hbI hwy 
          go_wp2_with (first | (refine wpList_load_mid rfl 46 _ rfl ga (wn * 33) rfl (wc s0).toList _ (by exact HRG) Try.underlying46 rfl (by kernel_rfl) ?_) | ((with_reducible refine wpList_alloc_wz rfl rfl ?_)) | ((refine wpList_store_row rfl 46 _ _ rfl (w7.heap.size) (wc s0) rfl rfl _ _ (by exact Z8) (by kernel_rfl) (by kernel_rfl) (by kernel_rfl) ?_); rw [← HW8.out]; clear HW8 Z8 HRG) | (refine wpList_load_row rfl 46 _ rfl (w7.heap.size) rfl _ (wc s0) (0, 0) _ (by exact X8) Try.underlying46 rfl (by kernel_rfl) ?_))
          clear x80
          refine HS.out.mono ?_
          rintro e u9 ⟨s2, rfl, A9, M9, T9⟩
          obtain ⟨hem, hp2⟩ := Emp.of A9
          have E9 := E8.touch M9 T9
          have X9 := T9.bk X8 (by omega) (by omega)
          have Z10 := Bk.new u9 (wc wz) 46
          have Y10 := boxed_bk u9 s2
          have bb10 := boxed_below u9 s2
          have E10 := E9.keep bb10
          have X10 := X9.keep bb10
          have lx10 := X9.lt
          obtain ⟨w10, hw10⟩ : ∃ u, u = (u9.alloc (.cells (wc wz) 46)).setRow u9.heap.size (wc s2) := ⟨_, rfl⟩
          rw [← hw10] at Y10 E10 X10
          have HW10 := Lib.hid hw10
          clear hw10 bb10 A9 M9 T9 E9 X9 HS E8 X8
          have c10 : w10.cell? ⟨w7.heap.size, 0, none⟩ = some (.int .i64 s0.p.ln) := (X10.cells 0).trans (f0 _)
          have E11 := E10
          have Y11 := Y10
          clear E10 Y10
          have E12 := E11.setA (xs.set wn s2)
          obtain ⟨w12, hw12⟩ : ∃ u, u = w10.setRow ga (wcs (xs.set wn s2)) := ⟨_, rfl⟩
          rw [← hw12] at E12
          have HW12 := Lib.hid hw12
          clear hw12
          go_wp2_with (first | ((with_reducible refine wpList_alloc_wz rfl rfl ?_)) | ((refine wpList_store_row rfl 46 _ _ rfl (u9.heap.size) (wc s2) rfl rfl _ _ (by exact Z10) (by kernel_rfl) (by kernel_rfl) (by kernel_rfl) ?_); rw [← HW10.out]; clear HW10 Z10) | (refine wpList_load_row rfl 46 _ rfl (u9.heap.size) rfl _ (wc s2) (0, 0) _ (by exact Y11) Try.underlying46 rfl (by kernel_rfl) ?_) | ((with_reducible refine Sub.wpList_store_sub rfl 46 _ _ rfl ga (wn * 33) (wc s2) ?_ ?_ 46 (wcs xs) (wcs (xs.set wn s2)) ?_ ?_ ?_ ?_ ?_ ?_); exact rfl; exact rfl; exact E11.A; kernel_rfl; exact hrow; kernel_rfl; exact wcs_set hx0 s2; rw [← HW12.out]; clear HW12 E11 Y11))
          refine (peek_any E12.M (by have := hEI.m; omega) 0).mono ?_
          rintro e w13 ⟨rfl, rfl⟩
          have hnow : ldV r.L 0 = gL r.L := gL_ld (by have := hEI.len; omega)
          rw [hnow]
          have hEI2 : EI N (k + 1) r.L ((xs.set wn s2).map (·.p)) (I) := by rw [List.map_set, hp2]; exact hEI
          have hEM : ∀ s ∈ xs.set wn s2, Emp s := fun s hs => by
            rcases List.mem_or_eq_of_mem_set hs with q | rfl
            · exact HEE.out s q
            · exact hem
          obtain ⟨ys, hys⟩ : ∃ ys, ys = xs.set wn s2 := ⟨_, rfl⟩
          obtain ⟨J, hJ⟩ : ∃ J : List Bool, J = (I) := ⟨_, rfl⟩
          rw [← hys] at hEI2 hEM E12
          rw [← hJ] at hEI2 E12
          have hyl : ys.length = N := by rw [hys, List.length_set]; exact hxl
          have hJl : J.length = N := hEI2.nI
          obtain ⟨G, hG⟩ : ∃ G, G = gL r.L := ⟨_, rfl⟩
          rw [← hG]
          have HEI2 := Lib.hid hEI2
          have HEM := Lib.hid hEM
          have HGG := Lib.hid hG
          have hsumk : IntKind.i64.wrap ((k : Int) + 1) = (k : Int) + 1 := IntWalk.i64_in _ (by omega)
          clear hEI2 hEM hG hys hJ hEI hp2 hem hnow tw t0 t90
          go_wp2
          go_loopw [17] (fun kk wi => wi = w12 ∧ ∃ m : Nat, kk = .int .i64 m ∧ m ≤ N) (fun kk _ => N - (intOf kk).toNat)
          case atStart => exact ⟨rfl, 0, rfl, by omega⟩
          case round =>
            obtain ⟨hwi, m, rfl, hmN⟩ := hrel
            subst hwi
            have cxi := E12.C.cells
            have hsumm : IntKind.i64.wrap ((m : Int) + 1) = (m : Int) + 1 := IntWalk.i64_in _ (by omega)
            by_cases hmlt : m < N
            · have hdm : decide (m < N) = true := by simp [hmlt]
              have hmJ : m < J.length := by omega
              have hmy : m < ys.length := by omega
              have hcm := E12.B.cells m
              rw [bv_get hmJ] at hcm
              have hins := HEI2.out.ins m hmlt
              have hepr := (HEI2.out.pr m hmlt).2
              rw [map_p_get _ _ hmy, ← HGG.out] at hins hepr
              have hiJ : iL J m = J[m] := by unfold iL; rw [List.getD_eq_getElem?_getD, List.getElem?_eq_getElem hmJ]; rfl
              have hce := wcs_cell E12.A hmy (j := 9) (by omega)
              have f9 : ∀ s : Wk, (wc s)[9]? = some (.int .u64 s.p.ep) := fun _ => rfl
              rw [f9] at hce
              clear f9
              have hpe := (HEI2.out.pr m hmlt).1.ep
              rw [map_p_get _ _ hmy] at hpe
              cases hbm : J[m] with
              | false =>
                rw [hbm] at hcm
                clear hins hepr hiJ hbm hce hpe
                go_wp2
                go_roundw
                case rel => exact ⟨by trivial, m + 1, by go_num, by omega⟩
                case measure => simp [intOf]; omega
              | true =>
                rw [hbm] at hcm
                have h1 := (hins (by rw [hiJ]; exact hbm)).1
                obtain ⟨ep, hep⟩ : ∃ ep, ep = ys[m].p.ep := ⟨_, rfl⟩
                rw [← hep] at h1 hepr hce hpe
                clear hins hiJ hbm hep
                by_cases hge : G = ep
                · have q1 : (G != ep) = false := by simp [hge]
                  clear h1 hepr hpe hge
                  go_wp2
                  go_roundw
                  case rel => exact ⟨by trivial, m + 1, by go_num, by omega⟩
                  case measure => simp [intOf]; omega
                · have hG1 : G = ep + 1 := by omega
                  have hgb := HEI2.out.g
                  rw [← HGG.out] at hgb
                  have q1 : (G != ep) = true := by simp [hge]
                  have q2 : (G != ep + 1) = false := by simp [hG1]
                  have q3 : (G != IntKind.u64.wrap (ep + 1)) = false := by rw [IntKind.wrap_u64, Int.emod_eq_of_lt (by omega) (by omega)]; simp [hG1]
                  clear h1 hepr hge hG1 hgb
                  go_wp2
                  go_roundw
                  case rel => exact ⟨by trivial, m + 1, by go_num, by omega⟩
                  case measure => simp [intOf]; omega
            · obtain rfl : m = N := by omega
              have hdm : decide (m < m) = false := by simp
              go_wp2
              go_roundw
              case rel => exact ⟨k + 1, r.L, ys, J, r.a, by go_num, by omega, HEI2.out, HEM.out, E12⟩
              case measure => simp [intOf]; omega
        · have tw : (r.way == 1) = true := by simp [hwy]
          have t3 : (s0.p.ln == 3) = false := by simp [hl3]
          rw [iset hxI] at hEI
          clear hl0 hlns hp0 hprs hE0 hbI hwy hl3
          go_wp2_with (first | (refine wpList_load_mid rfl 46 _ rfl ga (wn * 33) rfl (wc s0).toList _ (by exact HRG) Try.underlying46 rfl (by kernel_rfl) ?_) | ((with_reducible refine wpList_alloc_wz rfl rfl ?_)) | ((refine wpList_store_row rfl 46 _ _ rfl (w7.heap.size) (wc s0) rfl rfl _ _ (by exact Z8) (by kernel_rfl) (by kernel_rfl) (by kernel_rfl) ?_); rw [← HW8.out]; clear HW8 Z8 HRG) | (refine wpList_load_row rfl 46 _ rfl (w7.heap.size) rfl _ (wc s0) (0, 0) _ (by exact X8) Try.underlying46 rfl (by kernel_rfl) ?_))
          clear x80
          refine HS.out.mono ?_
          rintro e u9 ⟨s2, rfl, A9, M9, T9⟩
          obtain ⟨hem, hp2⟩ := Emp.of A9
          have E9 := E8.touch M9 T9
          have X9 := T9.bk X8 (by omega) (by omega)
          have Z10 := Bk.new u9 (wc wz) 46
          have Y10 := boxed_bk u9 s2
          have bb10 := boxed_below u9 s2
          have E10 := E9.keep bb10
          have X10 := X9.keep bb10
          have lx10 := X9.lt
          obtain ⟨w10, hw10⟩ : ∃ u, u = (u9.alloc (.cells (wc wz) 46)).setRow u9.heap.size (wc s2) := ⟨_, rfl⟩
          rw [← hw10] at Y10 E10 X10
          have HW10 := Lib.hid hw10
          clear hw10 bb10 A9 M9 T9 E9 X9 HS E8 X8
          have c10 : w10.cell? ⟨w7.heap.size, 0, none⟩ = some (.int .i64 s0.p.ln) := (X10.cells 0).trans (f0 _)
          have E11 := E10
          have Y11 := Y10
          clear E10 Y10
          have E12 := E11.setA (xs.set wn s2)
          obtain ⟨w12, hw12⟩ : ∃ u, u = w10.setRow ga (wcs (xs.set wn s2)) := ⟨_, rfl⟩
          rw [← hw12] at E12
          have HW12 := Lib.hid hw12
          clear hw12
          go_wp2_with (first | ((with_reducible refine wpList_alloc_wz rfl rfl ?_)) | ((refine wpList_store_row rfl 46 _ _ rfl (u9.heap.size) (wc s2) rfl rfl _ _ (by exact Z10) (by kernel_rfl) (by kernel_rfl) (by kernel_rfl) ?_); rw [← HW10.out]; clear HW10 Z10) | (refine wpList_load_row rfl 46 _ rfl (u9.heap.size) rfl _ (wc s2) (0, 0) _ (by exact Y11) Try.underlying46 rfl (by kernel_rfl) ?_) | ((with_reducible refine Sub.wpList_store_sub rfl 46 _ _ rfl ga (wn * 33) (wc s2) ?_ ?_ 46 (wcs xs) (wcs (xs.set wn s2)) ?_ ?_ ?_ ?_ ?_ ?_); exact rfl; exact rfl; exact E11.A; kernel_rfl; exact hrow; kernel_rfl; exact wcs_set hx0 s2; rw [← HW12.out]; clear HW12 E11 Y11))
          refine (peek_any E12.M (by have := hEI.m; omega) 0).mono ?_
          rintro e w13 ⟨rfl, rfl⟩
          have hnow : ldV r.L 0 = gL r.L := gL_ld (by have := hEI.len; omega)
          rw [hnow]
          have hEI2 : EI N (k + 1) r.L ((xs.set wn s2).map (·.p)) (I) := by rw [List.map_set, hp2]; exact hEI
          have hEM : ∀ s ∈ xs.set wn s2, Emp s := fun s hs => by
            rcases List.mem_or_eq_of_mem_set hs with q | rfl
            · exact HEE.out s q
            · exact hem
          obtain ⟨ys, hys⟩ : ∃ ys, ys = xs.set wn s2 := ⟨_, rfl⟩
          obtain ⟨J, hJ⟩ : ∃ J : List Bool, J = (I) := ⟨_, rfl⟩
          rw [← hys] at hEI2 hEM E12
          rw [← hJ] at hEI2 E12
          have hyl : ys.length = N := by rw [hys, List.length_set]; exact hxl
          have hJl : J.length = N := hEI2.nI
          obtain ⟨G, hG⟩ : ∃ G, G = gL r.L := ⟨_, rfl⟩
          rw [← hG]
          have HEI2 := Lib.hid hEI2
          have HEM := Lib.hid hEM
          have HGG := Lib.hid hG
          have hsumk : IntKind.i64.wrap ((k : Int) + 1) = (k : Int) + 1 := IntWalk.i64_in _ (by omega)
          clear hEI2 hEM hG hys hJ hEI hp2 hem hnow tw t3 t0 t90
          go_wp2
          go_loopw [17] (fun kk wi => wi = w12 ∧ ∃ m : Nat, kk = .int .i64 m ∧ m ≤ N) (fun kk _ => N - (intOf kk).toNat)
          case atStart => exact ⟨rfl, 0, rfl, by omega⟩
          case round =>
            obtain ⟨hwi, m, rfl, hmN⟩ := hrel
            subst hwi
            have cxi := E12.C.cells
            have hsumm : IntKind.i64.wrap ((m : Int) + 1) = (m : Int) + 1 := IntWalk.i64_in _ (by omega)
            by_cases hmlt : m < N
            · have hdm : decide (m < N) = true := by simp [hmlt]
              have hmJ : m < J.length := by omega
              have hmy : m < ys.length := by omega
              have hcm := E12.B.cells m
              rw [bv_get hmJ] at hcm
              have hins := HEI2.out.ins m hmlt
              have hepr := (HEI2.out.pr m hmlt).2
              rw [map_p_get _ _ hmy, ← HGG.out] at hins hepr
              have hiJ : iL J m = J[m] := by unfold iL; rw [List.getD_eq_getElem?_getD, List.getElem?_eq_getElem hmJ]; rfl
              have hce := wcs_cell E12.A hmy (j := 9) (by omega)
              have f9 : ∀ s : Wk, (wc s)[9]? = some (.int .u64 s.p.ep) := fun _ => rfl
              rw [f9] at hce
              clear f9
              have hpe := (HEI2.out.pr m hmlt).1.ep
              rw [map_p_get _ _ hmy] at hpe
              cases hbm : J[m] with
              | false =>
                rw [hbm] at hcm
                clear hins hepr hiJ hbm hce hpe
                go_wp2
                go_roundw
                case rel => exact ⟨by trivial, m + 1, by go_num, by omega⟩
                case measure => simp [intOf]; omega
              | true =>
                rw [hbm] at hcm
                have h1 := (hins (by rw [hiJ]; exact hbm)).1
                obtain ⟨ep, hep⟩ : ∃ ep, ep = ys[m].p.ep := ⟨_, rfl⟩
                rw [← hep] at h1 hepr hce hpe
                clear hins hiJ hbm hep
                by_cases hge : G = ep
                · have q1 : (G != ep) = false := by simp [hge]
                  clear h1 hepr hpe hge
                  go_wp2
                  go_roundw
                  case rel => exact ⟨by trivial, m + 1, by go_num, by omega⟩
                  case measure => simp [intOf]; omega
                · have hG1 : G = ep + 1 := by omega
                  have hgb := HEI2.out.g
                  rw [← HGG.out] at hgb
                  have q1 : (G != ep) = true := by simp [hge]
                  have q2 : (G != ep + 1) = false := by simp [hG1]
                  have q3 : (G != IntKind.u64.wrap (ep + 1)) = false := by rw [IntKind.wrap_u64, Int.emod_eq_of_lt (by omega) (by omega)]; simp [hG1]
                  clear h1 hepr hge hG1 hgb
                  go_wp2
                  go_roundw
                  case rel => exact ⟨by trivial, m + 1, by go_num, by omega⟩
                  case measure => simp [intOf]; omega
            · obtain rfl : m = N := by omega
              have hdm : decide (m < m) = false := by simp
              go_wp2
              go_roundw
              case rel => exact ⟨k + 1, r.L, ys, J, r.a, by go_num, by omega, HEI2.out, HEM.out, E12⟩
              case measure => simp [intOf]; omega
    · obtain rfl : k = pk.length := by omega
      have hdk : decide ((pk.length : Int) < (pk.length : Int)) = false := by simp
      go_wp2
      go_ret
      exact ⟨rfl, E.hb⟩
theorem epochHolds (n0 : Int) (hn0 : 0 ≤ n0 ∧ n0 < 256) (v : Sl) (pk : List Int) (w : World) (hr : Reads w .u8 v.v pk) (hpk : ∀ x ∈ pk, 0 ≤ x ∧ x < 256) : Calls Try.prog 6 #[.int .u8 n0, v.v] w fun e w' => e = .returned (.bool true) ∧ Below w.heap.size w w' := by
  have hl := reads_len hr
  have hle := reads_le hr
  obtain ⟨ad, n, cap⟩ := v
  simp only at hl hle
  unfold maxLen at hle
  by_cases hlong : 800 < n
  · exact eh_long n0 hn0 ad n cap hlong (by omega) w
  · obtain ⟨ad', cap', e1, _, _, h4⟩ := hr
    simp only [Sl.v, Value.slice.injEq] at e1
    obtain ⟨rfl, e2, rfl⟩ := e1
    rcases h4 with h4 | ⟨b0, off, rfl, hb0, hc⟩
    · subst h4
      simp only [List.length_nil] at hl
      subst hl
      exact eh_nil n0 hn0 ad cap w
    · subst hl
      exact eh_main n0 hn0 b0 off cap pk hpk (by omega) w hb0 hc
end Go.Proofs.Ytblkfbbdeodpjaa.Me
