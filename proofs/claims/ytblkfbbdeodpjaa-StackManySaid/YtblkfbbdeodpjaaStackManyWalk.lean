/- The law StackMany (made by gensm2.py). -/
import Derived.Test.YtblkfbbdeodpjaaSmNum
import Derived.Test.YtblkfbbdeodpjaaKb
import Derived.Test.YtblkfbbdeodpjaaLists
import Derived.Test.YtblkfbbdeodpjaaBagWt
namespace Go.Proofs.Ytblkfbbdeodpjaa.Me
open Go Go.RowKit Go.Proofs.Ytblkfbbdeodpjaa.Gro Go.Proofs.Ytblkfbbdeodpjaa.Own Go.Proofs.Ytblkfbbdeodpjaa.Wd Go.Proofs.Ytblkfbbdeodpjaa.Ap Go.Proofs.Ytblkfbbdeodpjaa.Pl Go.Proofs.Ytblkfbbdeodpjaa.Wo
set_option linter.unusedVariables false
set_option linter.unusedSimpArgs false
theorem smP_map (xs : List Wk) (k : Nat) (h : k < xs.length) : smP (xs.map (·.p)) k = xs[k].p := by
  unfold smP
  rw [List.getD_eq_getElem?_getD, List.getElem?_map, List.getElem?_eq_getElem h]
  rfl
def s20 : Wk := { wz with p := { pz with ln := 20 } }
set_option maxRecDepth 100000 in
set_option maxHeartbeats 16000000 in
theorem sm_long (n0 n1 : Int) (hn0 : 0 ≤ n0 ∧ n0 < 256) (hn1 : 0 ≤ n1 ∧ n1 < 256) (ad : Option Addr) (n cap : Nat) (hlong : 600 < n) (hmax : n ≤ 9223372036854775807) (w : World) : Calls Try.prog 5 #[.int .u8 n0, .int .u8 n1, .slice ad n cap] w fun e w' => e = .returned (.bool true) ∧ Below w.heap.size w w' := by
  obtain ⟨N, hN⟩ : ∃ N : Nat, (N : Int) = 1 + n0 % 8 := ⟨(1 + n0 % 8).toNat, by omega⟩
  obtain ⟨E, hE⟩ : ∃ E : Nat, (E : Int) = 1 + n1 % 16 := ⟨(1 + n1 % 16).toNat, by omega⟩
  have hN8 : 1 ≤ N ∧ N ≤ 8 := by omega
  have hE8 : 1 ≤ E ∧ E ≤ 16 := by omega
  have HNN := Lib.hid (show 1 + n0 % 8 = (N : Int) by omega)
  have HEE0 := Lib.hid (show 1 + n1 % 16 = (E : Int) by omega)
  have hbc : ∀ w, (Instr.build 24 #[(0, .int .i64 (N : Int)), (1, .int .i64 1), (2, .int .i64 1), (3, .int .i64 1), (4, .int .i64 (E : Int)), (6, .int .i64 1), (7, .int .u64 1)]).run Try.prog w = .ok (cv (cSm N E)) w := fun w => run_build w _ _ _ (by kernel_rfl)
  clear hN hE
  go_enter Try.func5, Try.ntmps5
  go_wp2_with fail
  refine (awake6 _).mono ?_
  rintro e w1 ⟨rfl, hb1⟩
  have C1 := Bk.new w1 (ccM (cSm N E)) 24
  have hw1 : Below w.heap.size w (w1.alloc (.cells (ccM (cSm N E)) 24)) := hb1.alloc hb1.size _
  have sz1 := hb1.size
  have d1 : decide ((600 : Int) < (n : Int)) = true := by simp; omega
  go_wp2_with (first | (rw [HNN.out]) | (rw [HEE0.out]))
  go_ret
  exact ⟨rfl, hw1⟩
set_option maxRecDepth 100000 in
set_option maxHeartbeats 16000000 in
theorem sm_nil (n0 n1 : Int) (hn0 : 0 ≤ n0 ∧ n0 < 256) (hn1 : 0 ≤ n1 ∧ n1 < 256) (ad : Option Addr) (cap : Nat) (w : World) : Calls Try.prog 5 #[.int .u8 n0, .int .u8 n1, .slice ad 0 cap] w fun e w' => e = .returned (.bool true) ∧ Below w.heap.size w w' := by
  obtain ⟨N, hN⟩ : ∃ N : Nat, (N : Int) = 1 + n0 % 8 := ⟨(1 + n0 % 8).toNat, by omega⟩
  obtain ⟨E, hE⟩ : ∃ E : Nat, (E : Int) = 1 + n1 % 16 := ⟨(1 + n1 % 16).toNat, by omega⟩
  have hN8 : 1 ≤ N ∧ N ≤ 8 := by omega
  have hE8 : 1 ≤ E ∧ E ≤ 16 := by omega
  have HNN := Lib.hid (show 1 + n0 % 8 = (N : Int) by omega)
  have HEE0 := Lib.hid (show 1 + n1 % 16 = (E : Int) by omega)
  have hbc : ∀ w, (Instr.build 24 #[(0, .int .i64 (N : Int)), (1, .int .i64 1), (2, .int .i64 1), (3, .int .i64 1), (4, .int .i64 (E : Int)), (6, .int .i64 1), (7, .int .u64 1)]).run Try.prog w = .ok (cv (cSm N E)) w := fun w => run_build w _ _ _ (by kernel_rfl)
  clear hN hE
  have hn := newMem_ok (cSm N E) (cSm_wf hN8 hE8) (chk_ok.1 (cSm_chk hN8 hE8))
  have HN := Lib.hid hn
  have HWF := Lib.hid (cSm_wf hN8 hE8)
  have HST0 := Lib.hid (sm_start hN8 hE8)
  have hb20 : ∀ w, (Instr.build 46 #[(0, .int .i64 20)]).run Try.prog w = .ok (wv s20) w := fun w => run_build w _ _ _ (by kernel_rfl)
  clear hn
  go_enter Try.func5, Try.ntmps5
  go_wp2_with fail
  refine (awake6 _).mono ?_
  rintro e w1 ⟨rfl, hb1⟩
  have C1 := Bk.new w1 (ccM (cSm N E)) 24
  have hw1 : Below w.heap.size w (w1.alloc (.cells (ccM (cSm N E)) 24)) := hb1.alloc hb1.size _
  have sz1 := hb1.size
  go_wp2_with (first | (rw [HNN.out]) | (rw [HEE0.out]) | (refine wpList_load_row rfl 24 _ rfl (w1.heap.size) rfl _ (ccM (cSm N E)) (0, 0) _ (by exact C1) Try.underlying24 rfl (by kernel_rfl) ?_))
  refine (HN.out _).mono ?_
  rintro e w2 ⟨g, gl, cp, rfl, M2, hb2⟩
  have g0 := M2.g0
  have gl0 := M2.gl0
  have lm2 := M2.lt
  rw [World.size_alloc] at g0 gl0
  have C2 := C1.keep hb2
  have hw2 := hw1.trans (hb2.mono (by rw [World.size_alloc]; omega))
  have lw2 := hw2.size
  have A4 := Bk.new w2 (wcs (List.replicate N wz)) 46
  have bA : Below w2.heap.size w2 (w2.alloc (.cells (wcs (List.replicate N wz)) 46)) := (Below.refl _ _).alloc (Nat.le_refl _) _
  have E4 : Kb w (cSm N E) w1.heap.size g gl cp w2.heap.size a0 (firstL (cSm N E)) (wcs (List.replicate N wz)) (w2.alloc (.cells (wcs (List.replicate N wz)) 46)) :=
    ⟨C2.keep bA, (M2.base (by rw [World.size_alloc]; omega)).keep bA, A4, hw2.trans (bA.mono lw2), sz1, by omega, by omega, by omega, by omega⟩
  have c2 := C2.cells
  generalize firstL (cSm N E) = L5 at *
  clear bA A4 M2 hb2 hw1 hw2 C1
  go_wp2_with (refine make_works Try.underlying55 rfl _ _ rfl N rfl rfl (by omega) ?_)
  obtain ⟨wq, hwq⟩ : ∃ u, u = w2.alloc (.cells (wcs (List.replicate N wz)) 46) := ⟨_, rfl⟩
  rw [← hwq] at E4 ⊢
  generalize w2.heap.size = ga at *
  generalize w1.heap.size = gc at *
  clear hwq c2 C2 g0 gl0 lm2 sz1 lw2
  go_loopw [11] (fun ii wr => ∃ (k m : Nat), k + m = N ∧ ii = .int .i64 (k : Int) ∧ Kb w (cSm N E) gc g gl cp ga a0 L5 (wcs (List.replicate k s20 ++ List.replicate m wz)) wr) (fun ii _ => N - (intOf ii).toNat)
  case atStart => exact ⟨0, N, by omega, rfl, E4⟩
  case round =>
    clear E4
    obtain ⟨k, m, hkm, rfl, E'⟩ := hrel
    cases m with
    | succ m =>
      have hkN : k < N := by omega
      have hd : decide (k < N) = true := by simp [hkN]
      have hsum : IntKind.i64.wrap ((k : Int) + 1) = (k : Int) + 1 := IntWalk.i64_in _ (by omega)
      have E2 := E'.setA (wcs (List.replicate (k + 1) s20 ++ List.replicate m wz))
      have hset := wcs_set (xs := List.replicate k s20 ++ List.replicate (m + 1) wz) (k := k) (by simp) s20
      rw [sm_fill] at hset
      have hrow : k * 33 + 33 ≤ (wcs (List.replicate k s20 ++ List.replicate (m + 1) wz)).size := by rw [wcs_size]; simp; omega
      obtain ⟨u2, hu2⟩ : ∃ u, u = wr.setRow ga (wcs (List.replicate (k + 1) s20 ++ List.replicate m wz)) := ⟨_, rfl⟩
      rw [← hu2] at E2
      have HKM := Lib.hid hkm
      have HU2 := Lib.hid hu2
      have HSET := Lib.hid hset
      have HROW := Lib.hid hrow
      have EA := E'.A
      clear hkm hu2 hset hrow E'
      go_wp2_with ((with_reducible refine Sub.wpList_store_sub rfl 46 _ _ rfl ga (k * 33) (wc s20) ?_ ?_ 46 (wcs (List.replicate k s20 ++ List.replicate (m + 1) wz)) (wcs (List.replicate (k + 1) s20 ++ List.replicate m wz)) ?_ ?_ ?_ ?_ ?_ ?_); exact rfl; exact rfl; exact EA; kernel_rfl; exact HROW.out; kernel_rfl; exact HSET.out; rw [← HU2.out]; clear HU2 EA)
      go_roundw
      case rel => exact ⟨k + 1, m, by have := HKM.out; omega, by go_num, E2⟩
      case measure => have := HKM.out; simp [intOf]; omega
    | zero =>
      obtain rfl : N = k := by omega
      rw [List.replicate_zero, List.append_nil] at E'
      have HST : SmI N E 0 L5 ((List.replicate N s20).map (·.p)) (List.range' 0 E) := by rw [List.map_replicate]; exact HST0.out
      have HST := Lib.hid HST
      clear hkm HST0
      go_wp2
      refine wp_loop_rounds 1 ?_
      rw [rounds_succ]
      go_wp2
      go_ret
      exact ⟨rfl, E'.hb⟩
set_option maxRecDepth 100000 in
set_option maxHeartbeats 16000000 in
theorem sm_main (n0 n1 : Int) (hn0 : 0 ≤ n0 ∧ n0 < 256) (hn1 : 0 ≤ n1 ∧ n1 < 256) (bp op cap : Nat) (pk : List Int) (hpk : ∀ x ∈ pk, 0 ≤ x ∧ x < 256) (hsh : pk.length ≤ 600) (w : World) (hbp : bp < w.heap.size) (hc : ∀ i (hi : i < pk.length), w.cell? ⟨bp, op + i, none⟩ = some (.int .u8 pk[i])) : Calls Try.prog 5 #[.int .u8 n0, .int .u8 n1, .slice (some ⟨bp, op, none⟩) pk.length cap] w fun e w' => e = .returned (.bool true) ∧ Below w.heap.size w w' := by
  obtain ⟨N, hN⟩ : ∃ N : Nat, (N : Int) = 1 + n0 % 8 := ⟨(1 + n0 % 8).toNat, by omega⟩
  obtain ⟨E, hE⟩ : ∃ E : Nat, (E : Int) = 1 + n1 % 16 := ⟨(1 + n1 % 16).toNat, by omega⟩
  have hN8 : 1 ≤ N ∧ N ≤ 8 := by omega
  have hE8 : 1 ≤ E ∧ E ≤ 16 := by omega
  have HNN := Lib.hid (show 1 + n0 % 8 = (N : Int) by omega)
  have HEE0 := Lib.hid (show 1 + n1 % 16 = (E : Int) by omega)
  have hbc : ∀ w, (Instr.build 24 #[(0, .int .i64 (N : Int)), (1, .int .i64 1), (2, .int .i64 1), (3, .int .i64 1), (4, .int .i64 (E : Int)), (6, .int .i64 1), (7, .int .u64 1)]).run Try.prog w = .ok (cv (cSm N E)) w := fun w => run_build w _ _ _ (by kernel_rfl)
  clear hN hE
  have hn := newMem_ok (cSm N E) (cSm_wf hN8 hE8) (chk_ok.1 (cSm_chk hN8 hE8))
  have HN := Lib.hid hn
  have HWF := Lib.hid (cSm_wf hN8 hE8)
  have HST0 := Lib.hid (sm_start hN8 hE8)
  have hb20 : ∀ w, (Instr.build 46 #[(0, .int .i64 20)]).run Try.prog w = .ok (wv s20) w := fun w => run_build w _ _ _ (by kernel_rfl)
  have HC := Lib.hid hc
  have HPK := Lib.hid hpk
  clear hn hc hpk
  go_enter Try.func5, Try.ntmps5
  go_wp2_with fail
  refine (awake6 _).mono ?_
  rintro e w1 ⟨rfl, hb1⟩
  have C1 := Bk.new w1 (ccM (cSm N E)) 24
  have hw1 : Below w.heap.size w (w1.alloc (.cells (ccM (cSm N E)) 24)) := hb1.alloc hb1.size _
  have sz1 := hb1.size
  have d1 : decide ((600 : Int) < (pk.length : Int)) = false := by simp; omega
  go_wp2_with (first | (rw [HNN.out]) | (rw [HEE0.out]) | (refine wpList_load_row rfl 24 _ rfl (w1.heap.size) rfl _ (ccM (cSm N E)) (0, 0) _ (by exact C1) Try.underlying24 rfl (by kernel_rfl) ?_))
  refine (HN.out _).mono ?_
  rintro e w2 ⟨g, gl, cp, rfl, M2, hb2⟩
  have g0 := M2.g0
  have gl0 := M2.gl0
  have lm2 := M2.lt
  rw [World.size_alloc] at g0 gl0
  have C2 := C1.keep hb2
  have hw2 := hw1.trans (hb2.mono (by rw [World.size_alloc]; omega))
  have lw2 := hw2.size
  have A4 := Bk.new w2 (wcs (List.replicate N wz)) 46
  have bA : Below w2.heap.size w2 (w2.alloc (.cells (wcs (List.replicate N wz)) 46)) := (Below.refl _ _).alloc (Nat.le_refl _) _
  have E4 : Kb w (cSm N E) w1.heap.size g gl cp w2.heap.size a0 (firstL (cSm N E)) (wcs (List.replicate N wz)) (w2.alloc (.cells (wcs (List.replicate N wz)) 46)) :=
    ⟨C2.keep bA, (M2.base (by rw [World.size_alloc]; omega)).keep bA, A4, hw2.trans (bA.mono lw2), sz1, by omega, by omega, by omega, by omega⟩
  have c2 := C2.cells
  generalize firstL (cSm N E) = L5 at *
  clear bA A4 M2 hb2 hw1 hw2 C1
  go_wp2_with (refine make_works Try.underlying55 rfl _ _ rfl N rfl rfl (by omega) ?_)
  obtain ⟨wq, hwq⟩ : ∃ u, u = w2.alloc (.cells (wcs (List.replicate N wz)) 46) := ⟨_, rfl⟩
  rw [← hwq] at E4 ⊢
  generalize w2.heap.size = ga at *
  generalize w1.heap.size = gc at *
  clear hwq c2 C2 g0 gl0 lm2 sz1 lw2
  go_loopw [11] (fun ii wr => ∃ (k m : Nat), k + m = N ∧ ii = .int .i64 (k : Int) ∧ Kb w (cSm N E) gc g gl cp ga a0 L5 (wcs (List.replicate k s20 ++ List.replicate m wz)) wr) (fun ii _ => N - (intOf ii).toNat)
  case atStart => exact ⟨0, N, by omega, rfl, E4⟩
  case round =>
    clear E4
    obtain ⟨k, m, hkm, rfl, E'⟩ := hrel
    cases m with
    | succ m =>
      have hkN : k < N := by omega
      have hd : decide (k < N) = true := by simp [hkN]
      have hsum : IntKind.i64.wrap ((k : Int) + 1) = (k : Int) + 1 := IntWalk.i64_in _ (by omega)
      have E2 := E'.setA (wcs (List.replicate (k + 1) s20 ++ List.replicate m wz))
      have hset := wcs_set (xs := List.replicate k s20 ++ List.replicate (m + 1) wz) (k := k) (by simp) s20
      rw [sm_fill] at hset
      have hrow : k * 33 + 33 ≤ (wcs (List.replicate k s20 ++ List.replicate (m + 1) wz)).size := by rw [wcs_size]; simp; omega
      obtain ⟨u2, hu2⟩ : ∃ u, u = wr.setRow ga (wcs (List.replicate (k + 1) s20 ++ List.replicate m wz)) := ⟨_, rfl⟩
      rw [← hu2] at E2
      have HKM := Lib.hid hkm
      have HU2 := Lib.hid hu2
      have HSET := Lib.hid hset
      have HROW := Lib.hid hrow
      have EA := E'.A
      clear hkm hu2 hset hrow E'
      go_wp2_with ((with_reducible refine Sub.wpList_store_sub rfl 46 _ _ rfl ga (k * 33) (wc s20) ?_ ?_ 46 (wcs (List.replicate k s20 ++ List.replicate (m + 1) wz)) (wcs (List.replicate (k + 1) s20 ++ List.replicate m wz)) ?_ ?_ ?_ ?_ ?_ ?_); exact rfl; exact rfl; exact EA; kernel_rfl; exact HROW.out; kernel_rfl; exact HSET.out; rw [← HU2.out]; clear HU2 EA)
      go_roundw
      case rel => exact ⟨k + 1, m, by have := HKM.out; omega, by go_num, E2⟩
      case measure => have := HKM.out; simp [intOf]; omega
    | zero =>
      obtain rfl : N = k := by omega
      rw [List.replicate_zero, List.append_nil] at E'
      have HST : SmI N E 0 L5 ((List.replicate N s20).map (·.p)) (List.range' 0 E) := by rw [List.map_replicate]; exact HST0.out
      have HST := Lib.hid HST
      clear hkm HST0
      go_wp2
      go_loopw [12] (fun ii wr => ∃ (k : Nat) (L : List Int) (xs : List Wk) (S : List Nat) (a : Acc), ii = .int .i64 (k : Int) ∧ k ≤ pk.length ∧ SmI N E k L (xs.map (·.p)) S ∧ (∀ s ∈ xs, Ems s) ∧ Kb w (cSm N E) gc g gl cp ga a L (wcs xs) wr) (fun ii _ => pk.length - (intOf ii).toNat)
      case atStart => exact ⟨0, L5, List.replicate N s20, List.range' 0 E, a0, rfl, by omega, HST.out, fun s hs => by rw [(List.mem_replicate.1 hs).2]; exact ems_z _, E'⟩
      case round =>
        clear E' HST
        obtain ⟨k, L, xs, S, a, rfl, hk, HI, HE, E'⟩ := hrel
        by_cases hlt : k < pk.length
        · have hdk : decide ((k : Int) < (pk.length : Int)) = true := by simp; omega
          have hcp := (E'.hb.cell (p := ⟨bp, op + k, none⟩) hbp).trans (HC.out k hlt)
          obtain ⟨pv, hpv⟩ : ∃ x, x = pk[k] := ⟨_, rfl⟩
          have hpr : 0 ≤ pv ∧ pv < 256 := by rw [hpv]; exact HPK.out _ (List.getElem_mem hlt)
          rw [← hpv] at hcp
          have lbp : bp < wr.heap.size := Nat.lt_of_lt_of_le hbp E'.hb.size
          have lgc : gc < wr.heap.size := E'.C.lt
          have cx := E'.C.cells
          have hN0 : ((N : Int) == 0) = false := by simp; omega
          obtain ⟨wn, hwn⟩ : ∃ m : Nat, (m : Int) = pv % (N : Int) := ⟨(pv % (N : Int)).toNat, by have := Int.emod_nonneg pv (show (N : Int) ≠ 0 by omega); omega⟩
          have hwN : wn < N := by have := Int.emod_lt_of_pos pv (show (0 : Int) < (N : Int) by omega); omega
          have HWT := Lib.hid hwn.symm
          have HWT2 := Lib.hid (show pv.tmod (N : Int) = (wn : Int) by rw [Int.tmod_eq_emod_of_nonneg hpr.1]; exact hwn.symm)
          have hxl : xs.length = N := by have := HI.nP; simpa using this
          clear hpv hwn
          go_wp2
          refine wp_region_grown (by kernel_rfl) (by kernel_rfl) ?_
          have hg := @gcell
          repeat (go_big_quiet_step (fail))
          refine wpQuiet_nil ?_
          rintro w7 ⟨⟨_, hb7⟩, rfl⟩
          clear hg
          have E7 := E'.keep hb7
          clear E' hcp cx lbp lgc hb7 hN0
          try rw [HWT2.out]
          try rw [HWT.out]
          have hx0 : wn < xs.length := by omega
          have HXL := Lib.hid hxl
          clear hxl
          obtain ⟨s0, hs0⟩ : ∃ s, s = xs[wn] := ⟨_, rfl⟩
          have HRG := wcs_range E7.A hx0
          rw [← hs0] at HRG
          have hp0 : smP (xs.map (·.p)) wn = s0.p := by rw [smP_map _ _ hx0, hs0]
          have hE0 : Ems s0 := hs0 ▸ HE _ (List.getElem_mem hx0)
          have hq0 := HI.pr wn hwN
          rw [hp0] at hq0
          have hsumk : IntKind.i64.wrap ((k : Int) + 1) = (k : Int) + 1 := IntWalk.i64_in _ (by omega)
          have hll := HI.len
          have HK := sm_pick (a := a) hN8 hE8 (by omega) HI hwN hp0
          have hs := stackStepAny E7.M HWF.out (by omega) HI.wr s0 { zS with p := s0.p } (few_ek _) (hE0 w7) hq0
          obtain ⟨r, hr⟩ : ∃ r, r = (stackLn (cSm N E) a L s0.p).fin := ⟨_, rfl⟩
          rw [show ({ zS with p := s0.p } : St).p = s0.p from rfl, ← hr] at hs
          rw [← hr] at HK
          have HS := Lib.hid hs
          obtain ⟨q, S1, hSI, hok, hcase⟩ := HK
          have HEE := Lib.hid HE
          have HS0 := Lib.hid hs0
          clear hs hr hs0 hp0 hE0 hq0 HE HI hll
          have hll := hSI.len
          have hli : listR (cSm N E) r.L true = some (S1.map Int.ofNat) := sm_list hN8 hE8 hSI.len hSI.ch hSI.nd hSI.bd hSI.hd
          have HLV : RowKit.Hid (∀ (v : Sl) w', Reads w' .u64 v.v r.L → Calls Try.prog 18 #[cv (cSm N E), v.v, .bool true] w' (fun en w2 => ∃ y : Sl, en = .returned (.tuple #[y.v, .bool true]) ∧ Owned w'.heap.size w2 .i64 3 y (S1.map Int.ofNat) ∧ Below w'.heap.size w' w2)) := Lib.hid (fun v w' hr => by
            have := refList (cSm N E) HWF.out true (v := v) hr hSI.wr
            unfold ListPost at this
            rwa [hli] at this)
          have HM := Lib.hid (show r.L.length ≤ 1000 by omega)
          have HSI := Lib.hid hSI
          clear hli hll hSI
          have hrow : wn * 33 + 33 ≤ (wcs xs).size := by rw [wcs_size]; omega
          have HROW := Lib.hid hrow
          clear hrow
          rcases hcase with hcase | hcase | hcase | hcase
          · obtain ⟨hwy, rfl⟩ := hcase
            go_wp2_with (first | (refine wpList_load_mid rfl 46 _ rfl ga (wn * 33) rfl (wc s0).toList _ (by exact HRG) Try.underlying46 rfl (by kernel_rfl) ?_))
            refine HS.out.mono ?_
            rintro e u9 ⟨s2, rfl, A9, M9, T9⟩
            obtain ⟨hem, hp2⟩ := Ems.of A9
            have E9 := E7.touch M9 T9
            have Z10 := Bk.new u9 (wc wz) 46
            have Y10 := boxed_bk u9 s2
            have bb10 := boxed_below u9 s2
            have E10 := E9.keep bb10
            have lga : ga < u9.heap.size := E9.A.lt
            obtain ⟨w10, hw10⟩ : ∃ u, u = (u9.alloc (.cells (wc wz) 46)).setRow u9.heap.size (wc s2) := ⟨_, rfl⟩
            rw [← hw10] at Y10 E10
            have HW10 := Lib.hid hw10
            clear hw10 bb10 A9 M9 T9 E9 HS E7 HRG
            have E12 := E10.setA (wcs (xs.set wn s2))
            have EA := E10.A
            obtain ⟨w12, hw12⟩ : ∃ u, u = w10.setRow ga (wcs (xs.set wn s2)) := ⟨_, rfl⟩
            rw [← hw12] at E12
            have HW12 := Lib.hid hw12
            have hES : Ems s2 := hem
            have hEP : (s2).p = r.p := hp2
            have HES := Lib.hid hES
            have HEP := Lib.hid hEP
            clear hw12 E10 hES hEP hem 
            clear hp2
            go_wp2_with (first | ((with_reducible refine wpList_alloc_wz rfl rfl ?_)) | (refine wpList_store_row rfl 46 _ _ rfl (u9.heap.size) (wc s2) rfl rfl _ _ (by exact Z10) (by kernel_rfl) (by kernel_rfl) (by kernel_rfl) ?_; rw [← HW10.out]; clear HW10 Z10) | (refine wpList_load_row rfl 46 _ rfl (u9.heap.size) rfl _ (wc s2) (0, 0) _ (by exact Y10) Try.underlying46 rfl (by kernel_rfl) ?_) | ((with_reducible refine Sub.wpList_store_sub rfl 46 _ _ rfl ga (wn * 33) (wc s2) ?_ ?_ 46 (wcs xs) (wcs (xs.set wn s2)) ?_ ?_ ?_ ?_ ?_ ?_); exact rfl; exact rfl; exact EA; kernel_rfl; exact HROW.out; kernel_rfl; exact wcs_set hx0 s2; rw [← HW12.out]; clear HW12 EA))
            have hS0 : Below w12.heap.size w12 w12.drew := Below.drew (Below.refl _ _)
            refine wp_region_held_drew (S := fun w' => Below w12.heap.size w12 w') (by kernel_rfl) hS0 (fun hHeld => ?_)
            clear hS0
            generalize w12.drew = z0 at *
            refine wpAnyH_take (i := 0) (oi := _) (v := cv (cSm N E)) rfl (by kernel_rfl) (by kernel_rfl) (by kernel_rfl) (fun _ _ _ h => h) (Or.inl ⟨by rfl, fun w' hSw => by have xx := (E12.C.keep hSw).cells; go_simp⟩) hHeld ?_
            try simp only [Act.put, List.getElem_toArray, List.getElem_cons_succ, List.getElem_cons_zero, List.setIfInBounds_toArray, List.set_cons_succ, List.set_cons_zero]
            refine wpAnyH_take (i := 1) (oi := _) (v := .pointer (some ⟨g, 0, none⟩)) rfl (by kernel_rfl) (by kernel_rfl) (by kernel_rfl) (fun _ _ _ h => h) (Or.inl ⟨by rfl, fun w' hSw => by go_simp⟩) hHeld ?_
            try simp only [Act.put, List.getElem_toArray, List.getElem_cons_succ, List.getElem_cons_zero, List.setIfInBounds_toArray, List.set_cons_succ, List.set_cons_zero]
            refine wpAnyH_ready (rs := [2]) (by kernel_rfl) (by simp) ?_
            refine AllReadyH.cons (o := _) rfl (fun K hK => ?_) AllReadyH.nil
            go_simp
            refine (all_in (E12.M.keep hHeld) HM.out).mono ?_
            rintro e z1 ⟨ya, rfl, hya, hb⟩
            have hHeld' := hHeld.trans (hb.mono hHeld.size)
            refine hK.out _ _ hHeld' (fun hHeld => ?_)
            clear hK K hHeld'
            try simp only [Act.put, List.getElem_toArray, List.getElem_cons_succ, List.getElem_cons_zero, List.setIfInBounds_toArray, List.set_cons_succ, List.set_cons_zero]
            have rd1 := Reads.of_own hya rfl
            clear hb hya
            have HIN := Lib.hid (HLV.out _ _ rd1)
            clear rd1
            refine wpAnyH_ready (rs := [3]) (by kernel_rfl) (by simp) ?_
            refine AllReadyH.cons (o := _) rfl (fun K hK => ?_) AllReadyH.nil
            go_simp
            refine (HIN.out).mono ?_
            rintro e z2 ⟨y, rfl, hyo, hb⟩
            have hHeld' := hHeld.trans (hb.mono hHeld.size)
            refine hK.out _ _ hHeld' (fun hHeld => ?_)
            clear hK K hHeld' HIN
            try simp only [Act.put, List.getElem_toArray, List.getElem_cons_succ, List.getElem_cons_zero, List.setIfInBounds_toArray, List.set_cons_succ, List.set_cons_zero]
            have hrd := hyo.reads
            clear hb hyo
            obtain ⟨yd, yl, yc⟩ := y
            obtain rfl : S1.length = yl := by have := reads_len hrd; simp at this; exact this.symm
            have HRD := Lib.hid hrd
            clear hrd
            refine wpAnyH_take (i := 4) (oi := _) (v := .tuple #[.slice yd S1.length yc, .bool true]) rfl (by kernel_rfl) (by kernel_rfl) (by kernel_rfl) (fun _ _ _ h => h) (Or.inl ⟨by rfl, fun w' hSw => by go_simp⟩) hHeld ?_
            try simp only [Act.put, List.getElem_toArray, List.getElem_cons_succ, List.getElem_cons_zero, List.setIfInBounds_toArray, List.set_cons_succ, List.set_cons_zero]
            refine wpAnyH_take (i := 5) (oi := _) (v := .slice yd S1.length yc) rfl (by kernel_rfl) (by kernel_rfl) (by kernel_rfl) (fun _ _ _ h => h) (Or.inl ⟨by rfl, fun w' hSw => by go_simp⟩) hHeld ?_
            try simp only [Act.put, List.getElem_toArray, List.getElem_cons_succ, List.getElem_cons_zero, List.setIfInBounds_toArray, List.set_cons_succ, List.set_cons_zero]
            refine wpAnyH_take (i := 6) (oi := _) (v := .bool true) rfl (by kernel_rfl) (by kernel_rfl) (by kernel_rfl) (fun _ _ _ h => h) (Or.inl ⟨by rfl, fun w' hSw => by go_simp⟩) hHeld ?_
            try simp only [Act.put, List.getElem_toArray, List.getElem_cons_succ, List.getElem_cons_zero, List.setIfInBounds_toArray, List.set_cons_succ, List.set_cons_zero]
            refine wpAnyH_take (i := 7) (oi := _) (v := .slice yd S1.length yc) rfl (by kernel_rfl) (by kernel_rfl) (by kernel_rfl) (fun _ _ _ h => h) (Or.inl ⟨by rfl, fun w' hSw => by go_simp⟩) hHeld ?_
            try simp only [Act.put, List.getElem_toArray, List.getElem_cons_succ, List.getElem_cons_zero, List.setIfInBounds_toArray, List.set_cons_succ, List.set_cons_zero]
            refine wpAnyH_take (i := 8) (oi := _) (v := .bool true) rfl (by kernel_rfl) (by kernel_rfl) (by kernel_rfl) (fun _ _ _ h => h) (Or.inl ⟨by rfl, fun w' hSw => by go_simp⟩) hHeld ?_
            try simp only [Act.put, List.getElem_toArray, List.getElem_cons_succ, List.getElem_cons_zero, List.setIfInBounds_toArray, List.set_cons_succ, List.set_cons_zero]
            refine wpAnyH_done (by kernel_rfl) ?_ _
            have E13 := E12.keep hHeld
            clear hHeld E12
            have cx := E13.C.cells
            have B14 := Bk.new z2 (iv .i64 (List.replicate E 0)) 3
            have b14 : Below z2.heap.size z2 (z2.alloc (.cells (iv .i64 (List.replicate E 0)) 3)) := (Below.refl _ _).alloc (Nat.le_refl _) _
            go_wp2_with (refine make_row Try.underlying28 infoI (by decide) rfl _ _ rfl E rfl rfl (by omega) ?_)
            obtain ⟨z3, hz3⟩ : ∃ u, u = z2.alloc (.cells (iv .i64 (List.replicate E 0)) 3) := ⟨_, rfl⟩
            rw [← hz3] at B14 b14 ⊢
            obtain ⟨gh, hgh⟩ : ∃ u, u = z2.heap.size := ⟨_, rfl⟩
            rw [← hgh] at B14 ⊢
            have HGH := Lib.hid hgh
            rw [← smA_zero] at B14
            have hIb := HSI.out.bd
            have HBD := Lib.hid hIb
            have HCN := Lib.hid HSI.out.cnt
            have HHD := Lib.hid (fun (j : Nat) (hj : j < N) => HSI.out.hand hj)
            have hyl : (xs.set wn s2).length = N := by rw [List.length_set]; exact HXL.out
            have HYP : RowKit.Hid ((xs.set wn s2).map (·.p) = (xs.map (·.p)).set wn r.p) := Lib.hid (by rw [List.map_set, HEP.out])
            obtain ⟨ys, hys⟩ : ∃ ys, ys = xs.set wn s2 := ⟨_, rfl⟩
            rw [← hys] at E13 hyl HYP
            have HYS := Lib.hid hys
            have HYL := Lib.hid hyl
            clear hz3 hgh cx hIb hys hyl
            go_loopw [20] (fun ii wr => ∃ (m : Nat), m ≤ S1.length ∧ ii = .int .i64 (m : Int) ∧ Bk wr gh (iv .i64 (smA E (smF S1 m))) 3 ∧ Below z2.heap.size z2 wr) (fun ii _ => S1.length - (intOf ii).toNat)
            case atStart => exact ⟨0, by omega, rfl, by rw [smA_congr (fun j _ => smF_zero)]; exact B14, b14⟩
            case round =>
              clear B14 b14
              obtain ⟨m, hm, rfl, B, bz⟩ := hrel
              by_cases hml : m < S1.length
              · have hdm : decide (m < S1.length) = true := by simp [hml]
                have hsumm : IntKind.i64.wrap ((m : Int) + 1) = (m : Int) + 1 := IntWalk.i64_in _ (by
                  have h1 := reads_le HRD.out
                  unfold maxLen at h1
                  simp only at h1
                  omega)
                obtain ⟨ad', cap', e1, _, _, h4⟩ := HRD.out
                simp only [Sl.v, Value.slice.injEq] at e1
                obtain ⟨rfl, -, rfl⟩ := e1
                rcases h4 with h4 | ⟨b0, off, rfl, hb0, hcl⟩
                · rw [List.map_eq_nil_iff] at h4
                  rw [h4] at hml
                  simp at hml
                · obtain ⟨b, hb⟩ : ∃ b, b = S1[m] := ⟨_, rfl⟩
                  have hbE : b < E := by rw [hb]; exact HBD.out _ (List.getElem_mem hml)
                  have hca := (bz.cell (p := ⟨b0, off + m, none⟩) hb0).trans (hcl m (by simpa using hml))
                  rw [show (S1.map Int.ofNat)[m]'(by simpa using hml) = (b : Int) by rw [hb]; simp] at hca
                  have hch : wr.cell? ⟨gh, b, none⟩ = some (.int .i64 (smF S1 m b : Int)) := by
                    rw [B.cells, iv_get (by rw [smA_len]; exact hbE), smA_get hbE]
                  have hfr : wr.frozen? ⟨gh, b, none⟩ = false := B.frozen b
                  have hle : smF S1 m b ≤ 1 := by have := HCN.out b hbE; have := smF_le (S := S1) (k := m) (j := b); omega
                  have HST1 := Lib.hid (fun (j : Nat) (hj : j < E) => show smF S1 (m + 1) j = if j = b then smF S1 m j + 1 else smF S1 m j by rw [hb]; exact smF_step hml)
                  obtain ⟨v, hv⟩ : ∃ v, v = smF S1 m b := ⟨_, rfl⟩
                  rw [← hv] at hch hle
                  have hsv : IntKind.i64.wrap ((v : Int) + 1) = (v : Int) + 1 := IntWalk.i64_in _ (by omega)
                  have B2 := B.setCell b (.int .i64 ((v : Int) + 1))
                  rw [iv_set, hv, smA_set hbE HST1.out, ← hv] at B2
                  have bz2 := bz.setCell (p := ⟨gh, b, none⟩) (by have := HGH.out; show z2.heap.size ≤ gh; omega) (.int .i64 ((v : Int) + 1))
                  have lb0 : b0 < wr.heap.size := Nat.lt_of_lt_of_le hb0 bz.size
                  have lgh := B.lt
                  have HB := Lib.hid hb
                  have HV := Lib.hid hv
                  clear hcl hb hv B bz
                  go_wp2
                  go_roundw
                  case rel => exact ⟨m + 1, by omega, by go_num, B2, bz2⟩
                  case measure => simp [intOf]; omega
              · obtain rfl : m = S1.length := by omega
                have hdm : decide (S1.length < S1.length) = false := by simp
                rw [smA_congr (fun j _ => smF_end.trans (smG_zero (Q := ys.map (·.p.i))).symm)] at B
                go_wp2
                go_loopw [21] (fun ii wr => ∃ (m : Nat), m ≤ N ∧ ii = .int .i64 (m : Int) ∧ Bk wr gh (iv .i64 (smA E (smG S1 (ys.map (·.p.i)) m))) 3 ∧ Below z2.heap.size z2 wr) (fun ii _ => N - (intOf ii).toNat)
                case atStart => exact ⟨0, by omega, rfl, B, bz⟩
                case round =>
                  clear B bz
                  obtain ⟨m, hm, rfl, B, bz⟩ := hrel
                  have E15 := E13.keep bz
                  have cx := E15.C.cells
                  have lgh := B.lt
                  have lga2 : ga < wr.heap.size := E15.A.lt
                  have lgc : gc < wr.heap.size := E15.C.lt
                  by_cases hml : m < N
                  · have hdm : decide (m < N) = true := by simp [hml]
                    have hsumm : IntKind.i64.wrap ((m : Int) + 1) = (m : Int) + 1 := IntWalk.i64_in _ (by omega)
                    have hmy : m < ys.length := by rw [HYL.out]; exact hml
                    obtain ⟨t, ht⟩ : ∃ t, t = ys[m].p.i := ⟨_, rfl⟩
                    have hct : wr.cell? ⟨ga, m * 33 + 20, none⟩ = some (.int .i64 t) := by
                      rw [wcs_cell E15.A hmy (by omega), ht]
                      rfl
                    have hgt : t = 0 ∨ (1 ≤ t ∧ t ≤ E) := by
                      have := HHD.out m hml
                      rw [← HYP.out, smP_map _ _ hmy, ← ht] at this
                      exact this
                    have hqg : (ys.map (·.p.i))[m]'(by simpa using hmy) = t := by rw [ht]; simp
                    have HSTG := Lib.hid (fun (j : Nat) => smG_step (S := S1) (Q := ys.map (·.p.i)) (k := m) (j := j) (by simpa using hmy))
                    rw [hqg] at HSTG

                    clear ht hqg hmy E15
                    rcases hgt with rfl | ⟨ht1, ht2⟩
                    · rw [smA_congr (fun j _ => show smG S1 (ys.map (·.p.i)) m j = smG S1 (ys.map (·.p.i)) (m + 1) j by rw [HSTG.out, if_neg (by omega)])] at B
                      go_wp2
                      go_roundw
                      case rel => exact ⟨m + 1, by omega, by go_num, B, bz⟩
                      case measure => simp [intOf]; omega
                    · obtain ⟨b, hb⟩ : ∃ b : Nat, t = (b : Int) + 1 := ⟨(t - 1).toNat, by omega⟩
                      have hbE : b < E := by omega
                      have hd0 : decide (0 < t) = true := by simp; omega
                      have hp0 : 0 < t := by omega
                      have hdE : decide (t ≤ (E : Int)) = true := by simp; omega
                      have hw1 : wrap64 (t - 1) = (b : Int) := by rw [hb]; unfold wrap64; omega
                      have hw2 : IntKind.i64.wrap (t - 1) = (b : Int) := by rw [hb]; exact (IntWalk.i64_in _ (by omega)).trans (by omega)
                      have hch : wr.cell? ⟨gh, b, none⟩ = some (.int .i64 (smG S1 (ys.map (·.p.i)) m b : Int)) := by
                        rw [B.cells, iv_get (by rw [smA_len]; exact hbE), smA_get hbE]
                      have hfr : wr.frozen? ⟨gh, b, none⟩ = false := B.frozen b
                      have hle : smG S1 (ys.map (·.p.i)) m b ≤ 1 := by
                        have h1 := HCN.out b hbE
                        have h2 := smG_le (S := S1) (Q := ys.map (·.p.i)) (k := m) (j := b)
                        rw [← HYP.out, List.map_map] at h1
                        have h3 : List.count ((b : Int) + 1) (List.map ((fun x : Pl => x.i) ∘ fun x : Wk => x.p) ys) = List.count ((b : Int) + 1) (ys.map (·.p.i)) := rfl
                        omega
                      have HST1 := Lib.hid (fun (j : Nat) (hj : j < E) => show smG S1 (ys.map (·.p.i)) (m + 1) j = if j = b then smG S1 (ys.map (·.p.i)) m j + 1 else smG S1 (ys.map (·.p.i)) m j by
                        rw [HSTG.out, hb]
                        by_cases q : j = b
                        · rw [if_pos (by omega), if_pos q]
                        · rw [if_neg (by omega), if_neg q])
                      obtain ⟨v, hv⟩ : ∃ v, v = smG S1 (ys.map (·.p.i)) m b := ⟨_, rfl⟩
                      rw [← hv] at hch hle
                      have hsv : IntKind.i64.wrap ((v : Int) + 1) = (v : Int) + 1 := IntWalk.i64_in _ (by omega)
                      have B2 := B.setCell b (.int .i64 ((v : Int) + 1))
                      rw [iv_set, hv, smA_set hbE HST1.out, ← hv] at B2
                      have bz2 := bz.setCell (p := ⟨gh, b, none⟩) (by have := HGH.out; show z2.heap.size ≤ gh; omega) (.int .i64 ((v : Int) + 1))
                      have HB := Lib.hid hb
                      have HV := Lib.hid hv
                      clear hb hv B bz
                      go_wp2
                      go_roundw
                      case rel => exact ⟨m + 1, by omega, by go_num, B2, bz2⟩
                      case measure => simp [intOf]; omega
                  · obtain rfl : N = m := by omega
                    have hdm : decide (N < N) = false := by simp
                    have B9 : Bk wr gh (iv .i64 (smA E (fun _ => 1))) 3 := by
                      rw [smA_congr (g := fun _ => 1) (fun j hj => by
                        rw [smG_end (by rw [List.length_map]; exact HYL.out)]
                        have h1 := HCN.out j hj
                        rw [← HYP.out, List.map_map] at h1
                        exact h1)] at B
                      exact B
                    clear B
                    go_wp2
                    go_loopw [23] (fun ii wi => wi = wr ∧ ∃ (m : Nat), m ≤ E ∧ ii = .int .i64 (m : Int)) (fun ii _ => E - (intOf ii).toNat)
                    case atStart => exact ⟨rfl, 0, by omega, rfl⟩
                    case round =>
                      obtain ⟨hwi, m, hm, rfl⟩ := hrel
                      subst hwi
                      by_cases hml : m < E
                      · have hdm : decide (m < E) = true := by simp [hml]
                        have hsumm : IntKind.i64.wrap ((m : Int) + 1) = (m : Int) + 1 := IntWalk.i64_in _ (by omega)
                        have hch := B9.cells m
                        rw [iv_get (by rw [smA_len]; exact hml), smA_get hml] at hch
                        go_wp2
                        go_roundw
                        case rel => exact ⟨by trivial, m + 1, by omega, by go_num⟩
                        case measure => simp [intOf]; omega
                      · obtain rfl : E = m := by omega
                        have hdm : decide (E < E) = false := by simp
                        go_wp2
                        go_roundw
                        case rel => exact ⟨k + 1, r.L, ys, S1, r.a, by go_num, by omega, by rw [HYP.out]; exact HSI.out, fun s hs => by
                            rw [HYS.out] at hs
                            rcases List.mem_or_eq_of_mem_set hs with q | rfl
                            · exact HEE.out s q
                            · exact HES.out, E15⟩
                        case measure => simp [intOf]; omega
          · obtain ⟨hwy, hl, rfl, hh0, hh1⟩ := hcase
            have t22 : (s0.p.ln == 22) = true := by simp [hl]
            clear hl
            have hb23 : ∀ w, (Instr.build 46 #[(0, .int .i64 23), (9, .int .i64 r.p.h)]).run Try.prog w = .ok (wv ({ wz with p := { pz with ln := 23, i := r.p.h } } : Wk)) w := fun w => run_build w _ _ _ (by kernel_rfl)
            have hcv : IntKind.i64.wrap r.p.h = r.p.h := IntWalk.i64_in _ (by omega)
            have hcw : wrap64 r.p.h = r.p.h := IntWalk.wrap64_in _ (by omega)
            go_wp2_with (first | (refine wpList_load_mid rfl 46 _ rfl ga (wn * 33) rfl (wc s0).toList _ (by exact HRG) Try.underlying46 rfl (by kernel_rfl) ?_))
            refine HS.out.mono ?_
            rintro e u9 ⟨s2, rfl, A9, M9, T9⟩
            obtain ⟨hem, hp2⟩ := Ems.of A9
            have E9 := E7.touch M9 T9
            have Z10 := Bk.new u9 (wc wz) 46
            have Y10 := boxed_bk u9 s2
            have bb10 := boxed_below u9 s2
            have E10 := E9.keep bb10
            have lga : ga < u9.heap.size := E9.A.lt
            obtain ⟨w10, hw10⟩ : ∃ u, u = (u9.alloc (.cells (wc wz) 46)).setRow u9.heap.size (wc s2) := ⟨_, rfl⟩
            rw [← hw10] at Y10 E10
            have HW10 := Lib.hid hw10
            clear hw10 bb10 A9 M9 T9 E9 HS E7 HRG
            have hcl : w10.cell? ⟨ga, wn * 33, none⟩ = some (.int .i64 s0.p.ln) := by
              have := wcs_cell E10.A hx0 (j := 0) (by omega)
              rw [← HS0.out] at this
              exact this
            have c23 : w10.cell? ⟨u9.heap.size, 23, none⟩ = some (.int .u64 r.p.h) := by rw [Y10.cells, show (wc s2)[23]? = some (.int .u64 s2.p.h) from rfl, hp2]
            clear hp2
            obtain ⟨sf, hsf⟩ : ∃ t : Wk, t = ({ wz with p := { pz with ln := 23, i := r.p.h } } : Wk) := ⟨_, rfl⟩
            have E11 := E10.farRow lga (wc ({ wz with p := { pz with ln := 23, i := r.p.h } } : Wk))
            have Y11 : Bk (w10.setRow u9.heap.size (wc ({ wz with p := { pz with ln := 23, i := r.p.h } } : Wk))) u9.heap.size (wc sf) 46 := by rw [hsf]; exact Y10.setRow (wc ({ wz with p := { pz with ln := 23, i := r.p.h } } : Wk))
            obtain ⟨w11, hw11⟩ : ∃ u, u = w10.setRow u9.heap.size (wc ({ wz with p := { pz with ln := 23, i := r.p.h } } : Wk)) := ⟨_, rfl⟩
            rw [← hw11] at E11 Y11
            have HW11 := Lib.hid hw11
            clear hw11 E10
            have E12 := E11.setA (wcs (xs.set wn sf))
            have EA := E11.A
            obtain ⟨w12, hw12⟩ : ∃ u, u = w11.setRow ga (wcs (xs.set wn sf)) := ⟨_, rfl⟩
            rw [← hw12] at E12
            have HW12 := Lib.hid hw12
            have hES : Ems sf := by rw [hsf]; exact ems_z _
            have hEP : (sf).p = ({ pz with ln := 23, i := r.p.h } : Pl) := by rw [hsf]; first | done | rfl
            have HES := Lib.hid hES
            have HEP := Lib.hid hEP
            clear hw12 E11 hES hEP hem hsf
            go_wp2_with (first | ((with_reducible refine wpList_alloc_wz rfl rfl ?_)) | (refine wpList_store_row rfl 46 _ _ rfl (u9.heap.size) (wc s2) rfl rfl _ _ (by exact Z10) (by kernel_rfl) (by kernel_rfl) (by kernel_rfl) ?_; rw [← HW10.out]; clear HW10 Z10) | (refine wpList_store_row rfl 46 _ _ rfl (u9.heap.size) (wc ({ wz with p := { pz with ln := 23, i := r.p.h } } : Wk)) rfl rfl _ _ (by exact Y10) (by kernel_rfl) (by kernel_rfl) (by kernel_rfl) ?_; rw [← HW11.out]; clear HW11 Y10) | (refine wpList_load_row rfl 46 _ rfl (u9.heap.size) rfl _ (wc sf) (0, 0) _ (by exact Y11) Try.underlying46 rfl (by kernel_rfl) ?_) | ((with_reducible refine Sub.wpList_store_sub rfl 46 _ _ rfl ga (wn * 33) (wc sf) ?_ ?_ 46 (wcs xs) (wcs (xs.set wn sf)) ?_ ?_ ?_ ?_ ?_ ?_); exact rfl; exact rfl; exact EA; kernel_rfl; exact HROW.out; kernel_rfl; exact wcs_set hx0 sf; rw [← HW12.out]; clear HW12 EA))
            have hS0 : Below w12.heap.size w12 w12.drew := Below.drew (Below.refl _ _)
            refine wp_region_held_drew (S := fun w' => Below w12.heap.size w12 w') (by kernel_rfl) hS0 (fun hHeld => ?_)
            clear hS0
            generalize w12.drew = z0 at *
            refine wpAnyH_take (i := 0) (oi := _) (v := cv (cSm N E)) rfl (by kernel_rfl) (by kernel_rfl) (by kernel_rfl) (fun _ _ _ h => h) (Or.inl ⟨by rfl, fun w' hSw => by have xx := (E12.C.keep hSw).cells; go_simp⟩) hHeld ?_
            try simp only [Act.put, List.getElem_toArray, List.getElem_cons_succ, List.getElem_cons_zero, List.setIfInBounds_toArray, List.set_cons_succ, List.set_cons_zero]
            refine wpAnyH_take (i := 1) (oi := _) (v := .pointer (some ⟨g, 0, none⟩)) rfl (by kernel_rfl) (by kernel_rfl) (by kernel_rfl) (fun _ _ _ h => h) (Or.inl ⟨by rfl, fun w' hSw => by go_simp⟩) hHeld ?_
            try simp only [Act.put, List.getElem_toArray, List.getElem_cons_succ, List.getElem_cons_zero, List.setIfInBounds_toArray, List.set_cons_succ, List.set_cons_zero]
            refine wpAnyH_ready (rs := [2]) (by kernel_rfl) (by simp) ?_
            refine AllReadyH.cons (o := _) rfl (fun K hK => ?_) AllReadyH.nil
            go_simp
            refine (all_in (E12.M.keep hHeld) HM.out).mono ?_
            rintro e z1 ⟨ya, rfl, hya, hb⟩
            have hHeld' := hHeld.trans (hb.mono hHeld.size)
            refine hK.out _ _ hHeld' (fun hHeld => ?_)
            clear hK K hHeld'
            try simp only [Act.put, List.getElem_toArray, List.getElem_cons_succ, List.getElem_cons_zero, List.setIfInBounds_toArray, List.set_cons_succ, List.set_cons_zero]
            have rd1 := Reads.of_own hya rfl
            clear hb hya
            have HIN := Lib.hid (HLV.out _ _ rd1)
            clear rd1
            refine wpAnyH_ready (rs := [3]) (by kernel_rfl) (by simp) ?_
            refine AllReadyH.cons (o := _) rfl (fun K hK => ?_) AllReadyH.nil
            go_simp
            refine (HIN.out).mono ?_
            rintro e z2 ⟨y, rfl, hyo, hb⟩
            have hHeld' := hHeld.trans (hb.mono hHeld.size)
            refine hK.out _ _ hHeld' (fun hHeld => ?_)
            clear hK K hHeld' HIN
            try simp only [Act.put, List.getElem_toArray, List.getElem_cons_succ, List.getElem_cons_zero, List.setIfInBounds_toArray, List.set_cons_succ, List.set_cons_zero]
            have hrd := hyo.reads
            clear hb hyo
            obtain ⟨yd, yl, yc⟩ := y
            obtain rfl : S1.length = yl := by have := reads_len hrd; simp at this; exact this.symm
            have HRD := Lib.hid hrd
            clear hrd
            refine wpAnyH_take (i := 4) (oi := _) (v := .tuple #[.slice yd S1.length yc, .bool true]) rfl (by kernel_rfl) (by kernel_rfl) (by kernel_rfl) (fun _ _ _ h => h) (Or.inl ⟨by rfl, fun w' hSw => by go_simp⟩) hHeld ?_
            try simp only [Act.put, List.getElem_toArray, List.getElem_cons_succ, List.getElem_cons_zero, List.setIfInBounds_toArray, List.set_cons_succ, List.set_cons_zero]
            refine wpAnyH_take (i := 5) (oi := _) (v := .slice yd S1.length yc) rfl (by kernel_rfl) (by kernel_rfl) (by kernel_rfl) (fun _ _ _ h => h) (Or.inl ⟨by rfl, fun w' hSw => by go_simp⟩) hHeld ?_
            try simp only [Act.put, List.getElem_toArray, List.getElem_cons_succ, List.getElem_cons_zero, List.setIfInBounds_toArray, List.set_cons_succ, List.set_cons_zero]
            refine wpAnyH_take (i := 6) (oi := _) (v := .bool true) rfl (by kernel_rfl) (by kernel_rfl) (by kernel_rfl) (fun _ _ _ h => h) (Or.inl ⟨by rfl, fun w' hSw => by go_simp⟩) hHeld ?_
            try simp only [Act.put, List.getElem_toArray, List.getElem_cons_succ, List.getElem_cons_zero, List.setIfInBounds_toArray, List.set_cons_succ, List.set_cons_zero]
            refine wpAnyH_take (i := 7) (oi := _) (v := .slice yd S1.length yc) rfl (by kernel_rfl) (by kernel_rfl) (by kernel_rfl) (fun _ _ _ h => h) (Or.inl ⟨by rfl, fun w' hSw => by go_simp⟩) hHeld ?_
            try simp only [Act.put, List.getElem_toArray, List.getElem_cons_succ, List.getElem_cons_zero, List.setIfInBounds_toArray, List.set_cons_succ, List.set_cons_zero]
            refine wpAnyH_take (i := 8) (oi := _) (v := .bool true) rfl (by kernel_rfl) (by kernel_rfl) (by kernel_rfl) (fun _ _ _ h => h) (Or.inl ⟨by rfl, fun w' hSw => by go_simp⟩) hHeld ?_
            try simp only [Act.put, List.getElem_toArray, List.getElem_cons_succ, List.getElem_cons_zero, List.setIfInBounds_toArray, List.set_cons_succ, List.set_cons_zero]
            refine wpAnyH_done (by kernel_rfl) ?_ _
            have E13 := E12.keep hHeld
            clear hHeld E12
            have cx := E13.C.cells
            have B14 := Bk.new z2 (iv .i64 (List.replicate E 0)) 3
            have b14 : Below z2.heap.size z2 (z2.alloc (.cells (iv .i64 (List.replicate E 0)) 3)) := (Below.refl _ _).alloc (Nat.le_refl _) _
            go_wp2_with (refine make_row Try.underlying28 infoI (by decide) rfl _ _ rfl E rfl rfl (by omega) ?_)
            obtain ⟨z3, hz3⟩ : ∃ u, u = z2.alloc (.cells (iv .i64 (List.replicate E 0)) 3) := ⟨_, rfl⟩
            rw [← hz3] at B14 b14 ⊢
            obtain ⟨gh, hgh⟩ : ∃ u, u = z2.heap.size := ⟨_, rfl⟩
            rw [← hgh] at B14 ⊢
            have HGH := Lib.hid hgh
            rw [← smA_zero] at B14
            have hIb := HSI.out.bd
            have HBD := Lib.hid hIb
            have HCN := Lib.hid HSI.out.cnt
            have HHD := Lib.hid (fun (j : Nat) (hj : j < N) => HSI.out.hand hj)
            have hyl : (xs.set wn sf).length = N := by rw [List.length_set]; exact HXL.out
            have HYP : RowKit.Hid ((xs.set wn sf).map (·.p) = (xs.map (·.p)).set wn ({ pz with ln := 23, i := r.p.h } : Pl)) := Lib.hid (by rw [List.map_set, HEP.out])
            obtain ⟨ys, hys⟩ : ∃ ys, ys = xs.set wn sf := ⟨_, rfl⟩
            rw [← hys] at E13 hyl HYP
            have HYS := Lib.hid hys
            have HYL := Lib.hid hyl
            clear hz3 hgh cx hIb hys hyl
            go_loopw [20] (fun ii wr => ∃ (m : Nat), m ≤ S1.length ∧ ii = .int .i64 (m : Int) ∧ Bk wr gh (iv .i64 (smA E (smF S1 m))) 3 ∧ Below z2.heap.size z2 wr) (fun ii _ => S1.length - (intOf ii).toNat)
            case atStart => exact ⟨0, by omega, rfl, by rw [smA_congr (fun j _ => smF_zero)]; exact B14, b14⟩
            case round =>
              clear B14 b14
              obtain ⟨m, hm, rfl, B, bz⟩ := hrel
              by_cases hml : m < S1.length
              · have hdm : decide (m < S1.length) = true := by simp [hml]
                have hsumm : IntKind.i64.wrap ((m : Int) + 1) = (m : Int) + 1 := IntWalk.i64_in _ (by
                  have h1 := reads_le HRD.out
                  unfold maxLen at h1
                  simp only at h1
                  omega)
                obtain ⟨ad', cap', e1, _, _, h4⟩ := HRD.out
                simp only [Sl.v, Value.slice.injEq] at e1
                obtain ⟨rfl, -, rfl⟩ := e1
                rcases h4 with h4 | ⟨b0, off, rfl, hb0, hcl⟩
                · rw [List.map_eq_nil_iff] at h4
                  rw [h4] at hml
                  simp at hml
                · obtain ⟨b, hb⟩ : ∃ b, b = S1[m] := ⟨_, rfl⟩
                  have hbE : b < E := by rw [hb]; exact HBD.out _ (List.getElem_mem hml)
                  have hca := (bz.cell (p := ⟨b0, off + m, none⟩) hb0).trans (hcl m (by simpa using hml))
                  rw [show (S1.map Int.ofNat)[m]'(by simpa using hml) = (b : Int) by rw [hb]; simp] at hca
                  have hch : wr.cell? ⟨gh, b, none⟩ = some (.int .i64 (smF S1 m b : Int)) := by
                    rw [B.cells, iv_get (by rw [smA_len]; exact hbE), smA_get hbE]
                  have hfr : wr.frozen? ⟨gh, b, none⟩ = false := B.frozen b
                  have hle : smF S1 m b ≤ 1 := by have := HCN.out b hbE; have := smF_le (S := S1) (k := m) (j := b); omega
                  have HST1 := Lib.hid (fun (j : Nat) (hj : j < E) => show smF S1 (m + 1) j = if j = b then smF S1 m j + 1 else smF S1 m j by rw [hb]; exact smF_step hml)
                  obtain ⟨v, hv⟩ : ∃ v, v = smF S1 m b := ⟨_, rfl⟩
                  rw [← hv] at hch hle
                  have hsv : IntKind.i64.wrap ((v : Int) + 1) = (v : Int) + 1 := IntWalk.i64_in _ (by omega)
                  have B2 := B.setCell b (.int .i64 ((v : Int) + 1))
                  rw [iv_set, hv, smA_set hbE HST1.out, ← hv] at B2
                  have bz2 := bz.setCell (p := ⟨gh, b, none⟩) (by have := HGH.out; show z2.heap.size ≤ gh; omega) (.int .i64 ((v : Int) + 1))
                  have lb0 : b0 < wr.heap.size := Nat.lt_of_lt_of_le hb0 bz.size
                  have lgh := B.lt
                  have HB := Lib.hid hb
                  have HV := Lib.hid hv
                  clear hcl hb hv B bz
                  go_wp2
                  go_roundw
                  case rel => exact ⟨m + 1, by omega, by go_num, B2, bz2⟩
                  case measure => simp [intOf]; omega
              · obtain rfl : m = S1.length := by omega
                have hdm : decide (S1.length < S1.length) = false := by simp
                rw [smA_congr (fun j _ => smF_end.trans (smG_zero (Q := ys.map (·.p.i))).symm)] at B
                go_wp2
                go_loopw [21] (fun ii wr => ∃ (m : Nat), m ≤ N ∧ ii = .int .i64 (m : Int) ∧ Bk wr gh (iv .i64 (smA E (smG S1 (ys.map (·.p.i)) m))) 3 ∧ Below z2.heap.size z2 wr) (fun ii _ => N - (intOf ii).toNat)
                case atStart => exact ⟨0, by omega, rfl, B, bz⟩
                case round =>
                  clear B bz
                  obtain ⟨m, hm, rfl, B, bz⟩ := hrel
                  have E15 := E13.keep bz
                  have cx := E15.C.cells
                  have lgh := B.lt
                  have lga2 : ga < wr.heap.size := E15.A.lt
                  have lgc : gc < wr.heap.size := E15.C.lt
                  by_cases hml : m < N
                  · have hdm : decide (m < N) = true := by simp [hml]
                    have hsumm : IntKind.i64.wrap ((m : Int) + 1) = (m : Int) + 1 := IntWalk.i64_in _ (by omega)
                    have hmy : m < ys.length := by rw [HYL.out]; exact hml
                    obtain ⟨t, ht⟩ : ∃ t, t = ys[m].p.i := ⟨_, rfl⟩
                    have hct : wr.cell? ⟨ga, m * 33 + 20, none⟩ = some (.int .i64 t) := by
                      rw [wcs_cell E15.A hmy (by omega), ht]
                      rfl
                    have hgt : t = 0 ∨ (1 ≤ t ∧ t ≤ E) := by
                      have := HHD.out m hml
                      rw [← HYP.out, smP_map _ _ hmy, ← ht] at this
                      exact this
                    have hqg : (ys.map (·.p.i))[m]'(by simpa using hmy) = t := by rw [ht]; simp
                    have HSTG := Lib.hid (fun (j : Nat) => smG_step (S := S1) (Q := ys.map (·.p.i)) (k := m) (j := j) (by simpa using hmy))
                    rw [hqg] at HSTG

                    clear ht hqg hmy E15
                    rcases hgt with rfl | ⟨ht1, ht2⟩
                    · rw [smA_congr (fun j _ => show smG S1 (ys.map (·.p.i)) m j = smG S1 (ys.map (·.p.i)) (m + 1) j by rw [HSTG.out, if_neg (by omega)])] at B
                      go_wp2
                      go_roundw
                      case rel => exact ⟨m + 1, by omega, by go_num, B, bz⟩
                      case measure => simp [intOf]; omega
                    · obtain ⟨b, hb⟩ : ∃ b : Nat, t = (b : Int) + 1 := ⟨(t - 1).toNat, by omega⟩
                      have hbE : b < E := by omega
                      have hd0 : decide (0 < t) = true := by simp; omega
                      have hp0 : 0 < t := by omega
                      have hdE : decide (t ≤ (E : Int)) = true := by simp; omega
                      have hw1 : wrap64 (t - 1) = (b : Int) := by rw [hb]; unfold wrap64; omega
                      have hw2 : IntKind.i64.wrap (t - 1) = (b : Int) := by rw [hb]; exact (IntWalk.i64_in _ (by omega)).trans (by omega)
                      have hch : wr.cell? ⟨gh, b, none⟩ = some (.int .i64 (smG S1 (ys.map (·.p.i)) m b : Int)) := by
                        rw [B.cells, iv_get (by rw [smA_len]; exact hbE), smA_get hbE]
                      have hfr : wr.frozen? ⟨gh, b, none⟩ = false := B.frozen b
                      have hle : smG S1 (ys.map (·.p.i)) m b ≤ 1 := by
                        have h1 := HCN.out b hbE
                        have h2 := smG_le (S := S1) (Q := ys.map (·.p.i)) (k := m) (j := b)
                        rw [← HYP.out, List.map_map] at h1
                        have h3 : List.count ((b : Int) + 1) (List.map ((fun x : Pl => x.i) ∘ fun x : Wk => x.p) ys) = List.count ((b : Int) + 1) (ys.map (·.p.i)) := rfl
                        omega
                      have HST1 := Lib.hid (fun (j : Nat) (hj : j < E) => show smG S1 (ys.map (·.p.i)) (m + 1) j = if j = b then smG S1 (ys.map (·.p.i)) m j + 1 else smG S1 (ys.map (·.p.i)) m j by
                        rw [HSTG.out, hb]
                        by_cases q : j = b
                        · rw [if_pos (by omega), if_pos q]
                        · rw [if_neg (by omega), if_neg q])
                      obtain ⟨v, hv⟩ : ∃ v, v = smG S1 (ys.map (·.p.i)) m b := ⟨_, rfl⟩
                      rw [← hv] at hch hle
                      have hsv : IntKind.i64.wrap ((v : Int) + 1) = (v : Int) + 1 := IntWalk.i64_in _ (by omega)
                      have B2 := B.setCell b (.int .i64 ((v : Int) + 1))
                      rw [iv_set, hv, smA_set hbE HST1.out, ← hv] at B2
                      have bz2 := bz.setCell (p := ⟨gh, b, none⟩) (by have := HGH.out; show z2.heap.size ≤ gh; omega) (.int .i64 ((v : Int) + 1))
                      have HB := Lib.hid hb
                      have HV := Lib.hid hv
                      clear hb hv B bz
                      go_wp2
                      go_roundw
                      case rel => exact ⟨m + 1, by omega, by go_num, B2, bz2⟩
                      case measure => simp [intOf]; omega
                  · obtain rfl : N = m := by omega
                    have hdm : decide (N < N) = false := by simp
                    have B9 : Bk wr gh (iv .i64 (smA E (fun _ => 1))) 3 := by
                      rw [smA_congr (g := fun _ => 1) (fun j hj => by
                        rw [smG_end (by rw [List.length_map]; exact HYL.out)]
                        have h1 := HCN.out j hj
                        rw [← HYP.out, List.map_map] at h1
                        exact h1)] at B
                      exact B
                    clear B
                    go_wp2
                    go_loopw [23] (fun ii wi => wi = wr ∧ ∃ (m : Nat), m ≤ E ∧ ii = .int .i64 (m : Int)) (fun ii _ => E - (intOf ii).toNat)
                    case atStart => exact ⟨rfl, 0, by omega, rfl⟩
                    case round =>
                      obtain ⟨hwi, m, hm, rfl⟩ := hrel
                      subst hwi
                      by_cases hml : m < E
                      · have hdm : decide (m < E) = true := by simp [hml]
                        have hsumm : IntKind.i64.wrap ((m : Int) + 1) = (m : Int) + 1 := IntWalk.i64_in _ (by omega)
                        have hch := B9.cells m
                        rw [iv_get (by rw [smA_len]; exact hml), smA_get hml] at hch
                        go_wp2
                        go_roundw
                        case rel => exact ⟨by trivial, m + 1, by omega, by go_num⟩
                        case measure => simp [intOf]; omega
                      · obtain rfl : E = m := by omega
                        have hdm : decide (E < E) = false := by simp
                        go_wp2
                        go_roundw
                        case rel => exact ⟨k + 1, r.L, ys, S1, r.a, by go_num, by omega, by rw [HYP.out]; exact HSI.out, fun s hs => by
                            rw [HYS.out] at hs
                            rcases List.mem_or_eq_of_mem_set hs with q | rfl
                            · exact HEE.out s q
                            · exact HES.out, E15⟩
                        case measure => simp [intOf]; omega
          · obtain ⟨hwy, rfl⟩ := hcase
            go_wp2_with (first | (refine wpList_load_mid rfl 46 _ rfl ga (wn * 33) rfl (wc s0).toList _ (by exact HRG) Try.underlying46 rfl (by kernel_rfl) ?_))
            refine HS.out.mono ?_
            rintro e u9 ⟨s2, rfl, A9, M9, T9⟩
            obtain ⟨hem, hp2⟩ := Ems.of A9
            have E9 := E7.touch M9 T9
            have Z10 := Bk.new u9 (wc wz) 46
            have Y10 := boxed_bk u9 s2
            have bb10 := boxed_below u9 s2
            have E10 := E9.keep bb10
            have lga : ga < u9.heap.size := E9.A.lt
            obtain ⟨w10, hw10⟩ : ∃ u, u = (u9.alloc (.cells (wc wz) 46)).setRow u9.heap.size (wc s2) := ⟨_, rfl⟩
            rw [← hw10] at Y10 E10
            have HW10 := Lib.hid hw10
            clear hw10 bb10 A9 M9 T9 E9 HS E7 HRG
            clear hp2
            obtain ⟨sf, hsf⟩ : ∃ t : Wk, t = s20 := ⟨_, rfl⟩
            have E11 := E10.farRow lga (wc s20)
            have Y11 : Bk (w10.setRow u9.heap.size (wc s20)) u9.heap.size (wc sf) 46 := by rw [hsf]; exact Y10.setRow (wc s20)
            obtain ⟨w11, hw11⟩ : ∃ u, u = w10.setRow u9.heap.size (wc s20) := ⟨_, rfl⟩
            rw [← hw11] at E11 Y11
            have HW11 := Lib.hid hw11
            clear hw11 E10
            have E12 := E11.setA (wcs (xs.set wn sf))
            have EA := E11.A
            obtain ⟨w12, hw12⟩ : ∃ u, u = w11.setRow ga (wcs (xs.set wn sf)) := ⟨_, rfl⟩
            rw [← hw12] at E12
            have HW12 := Lib.hid hw12
            have hES : Ems sf := by rw [hsf]; exact ems_z _
            have hEP : (sf).p = ({ pz with ln := 20 } : Pl) := by rw [hsf]; first | done | rfl
            have HES := Lib.hid hES
            have HEP := Lib.hid hEP
            clear hw12 E11 hES hEP hem hsf
            go_wp2_with (first | ((with_reducible refine wpList_alloc_wz rfl rfl ?_)) | (refine wpList_store_row rfl 46 _ _ rfl (u9.heap.size) (wc s2) rfl rfl _ _ (by exact Z10) (by kernel_rfl) (by kernel_rfl) (by kernel_rfl) ?_; rw [← HW10.out]; clear HW10 Z10) | (refine wpList_store_row rfl 46 _ _ rfl (u9.heap.size) (wc s20) rfl rfl _ _ (by exact Y10) (by kernel_rfl) (by kernel_rfl) (by kernel_rfl) ?_; rw [← HW11.out]; clear HW11 Y10) | (refine wpList_load_row rfl 46 _ rfl (u9.heap.size) rfl _ (wc sf) (0, 0) _ (by exact Y11) Try.underlying46 rfl (by kernel_rfl) ?_) | ((with_reducible refine Sub.wpList_store_sub rfl 46 _ _ rfl ga (wn * 33) (wc sf) ?_ ?_ 46 (wcs xs) (wcs (xs.set wn sf)) ?_ ?_ ?_ ?_ ?_ ?_); exact rfl; exact rfl; exact EA; kernel_rfl; exact HROW.out; kernel_rfl; exact wcs_set hx0 sf; rw [← HW12.out]; clear HW12 EA))
            have hS0 : Below w12.heap.size w12 w12.drew := Below.drew (Below.refl _ _)
            refine wp_region_held_drew (S := fun w' => Below w12.heap.size w12 w') (by kernel_rfl) hS0 (fun hHeld => ?_)
            clear hS0
            generalize w12.drew = z0 at *
            refine wpAnyH_take (i := 0) (oi := _) (v := cv (cSm N E)) rfl (by kernel_rfl) (by kernel_rfl) (by kernel_rfl) (fun _ _ _ h => h) (Or.inl ⟨by rfl, fun w' hSw => by have xx := (E12.C.keep hSw).cells; go_simp⟩) hHeld ?_
            try simp only [Act.put, List.getElem_toArray, List.getElem_cons_succ, List.getElem_cons_zero, List.setIfInBounds_toArray, List.set_cons_succ, List.set_cons_zero]
            refine wpAnyH_take (i := 1) (oi := _) (v := .pointer (some ⟨g, 0, none⟩)) rfl (by kernel_rfl) (by kernel_rfl) (by kernel_rfl) (fun _ _ _ h => h) (Or.inl ⟨by rfl, fun w' hSw => by go_simp⟩) hHeld ?_
            try simp only [Act.put, List.getElem_toArray, List.getElem_cons_succ, List.getElem_cons_zero, List.setIfInBounds_toArray, List.set_cons_succ, List.set_cons_zero]
            refine wpAnyH_ready (rs := [2]) (by kernel_rfl) (by simp) ?_
            refine AllReadyH.cons (o := _) rfl (fun K hK => ?_) AllReadyH.nil
            go_simp
            refine (all_in (E12.M.keep hHeld) HM.out).mono ?_
            rintro e z1 ⟨ya, rfl, hya, hb⟩
            have hHeld' := hHeld.trans (hb.mono hHeld.size)
            refine hK.out _ _ hHeld' (fun hHeld => ?_)
            clear hK K hHeld'
            try simp only [Act.put, List.getElem_toArray, List.getElem_cons_succ, List.getElem_cons_zero, List.setIfInBounds_toArray, List.set_cons_succ, List.set_cons_zero]
            have rd1 := Reads.of_own hya rfl
            clear hb hya
            have HIN := Lib.hid (HLV.out _ _ rd1)
            clear rd1
            refine wpAnyH_ready (rs := [3]) (by kernel_rfl) (by simp) ?_
            refine AllReadyH.cons (o := _) rfl (fun K hK => ?_) AllReadyH.nil
            go_simp
            refine (HIN.out).mono ?_
            rintro e z2 ⟨y, rfl, hyo, hb⟩
            have hHeld' := hHeld.trans (hb.mono hHeld.size)
            refine hK.out _ _ hHeld' (fun hHeld => ?_)
            clear hK K hHeld' HIN
            try simp only [Act.put, List.getElem_toArray, List.getElem_cons_succ, List.getElem_cons_zero, List.setIfInBounds_toArray, List.set_cons_succ, List.set_cons_zero]
            have hrd := hyo.reads
            clear hb hyo
            obtain ⟨yd, yl, yc⟩ := y
            obtain rfl : S1.length = yl := by have := reads_len hrd; simp at this; exact this.symm
            have HRD := Lib.hid hrd
            clear hrd
            refine wpAnyH_take (i := 4) (oi := _) (v := .tuple #[.slice yd S1.length yc, .bool true]) rfl (by kernel_rfl) (by kernel_rfl) (by kernel_rfl) (fun _ _ _ h => h) (Or.inl ⟨by rfl, fun w' hSw => by go_simp⟩) hHeld ?_
            try simp only [Act.put, List.getElem_toArray, List.getElem_cons_succ, List.getElem_cons_zero, List.setIfInBounds_toArray, List.set_cons_succ, List.set_cons_zero]
            refine wpAnyH_take (i := 5) (oi := _) (v := .slice yd S1.length yc) rfl (by kernel_rfl) (by kernel_rfl) (by kernel_rfl) (fun _ _ _ h => h) (Or.inl ⟨by rfl, fun w' hSw => by go_simp⟩) hHeld ?_
            try simp only [Act.put, List.getElem_toArray, List.getElem_cons_succ, List.getElem_cons_zero, List.setIfInBounds_toArray, List.set_cons_succ, List.set_cons_zero]
            refine wpAnyH_take (i := 6) (oi := _) (v := .bool true) rfl (by kernel_rfl) (by kernel_rfl) (by kernel_rfl) (fun _ _ _ h => h) (Or.inl ⟨by rfl, fun w' hSw => by go_simp⟩) hHeld ?_
            try simp only [Act.put, List.getElem_toArray, List.getElem_cons_succ, List.getElem_cons_zero, List.setIfInBounds_toArray, List.set_cons_succ, List.set_cons_zero]
            refine wpAnyH_take (i := 7) (oi := _) (v := .slice yd S1.length yc) rfl (by kernel_rfl) (by kernel_rfl) (by kernel_rfl) (fun _ _ _ h => h) (Or.inl ⟨by rfl, fun w' hSw => by go_simp⟩) hHeld ?_
            try simp only [Act.put, List.getElem_toArray, List.getElem_cons_succ, List.getElem_cons_zero, List.setIfInBounds_toArray, List.set_cons_succ, List.set_cons_zero]
            refine wpAnyH_take (i := 8) (oi := _) (v := .bool true) rfl (by kernel_rfl) (by kernel_rfl) (by kernel_rfl) (fun _ _ _ h => h) (Or.inl ⟨by rfl, fun w' hSw => by go_simp⟩) hHeld ?_
            try simp only [Act.put, List.getElem_toArray, List.getElem_cons_succ, List.getElem_cons_zero, List.setIfInBounds_toArray, List.set_cons_succ, List.set_cons_zero]
            refine wpAnyH_done (by kernel_rfl) ?_ _
            have E13 := E12.keep hHeld
            clear hHeld E12
            have cx := E13.C.cells
            have B14 := Bk.new z2 (iv .i64 (List.replicate E 0)) 3
            have b14 : Below z2.heap.size z2 (z2.alloc (.cells (iv .i64 (List.replicate E 0)) 3)) := (Below.refl _ _).alloc (Nat.le_refl _) _
            go_wp2_with (refine make_row Try.underlying28 infoI (by decide) rfl _ _ rfl E rfl rfl (by omega) ?_)
            obtain ⟨z3, hz3⟩ : ∃ u, u = z2.alloc (.cells (iv .i64 (List.replicate E 0)) 3) := ⟨_, rfl⟩
            rw [← hz3] at B14 b14 ⊢
            obtain ⟨gh, hgh⟩ : ∃ u, u = z2.heap.size := ⟨_, rfl⟩
            rw [← hgh] at B14 ⊢
            have HGH := Lib.hid hgh
            rw [← smA_zero] at B14
            have hIb := HSI.out.bd
            have HBD := Lib.hid hIb
            have HCN := Lib.hid HSI.out.cnt
            have HHD := Lib.hid (fun (j : Nat) (hj : j < N) => HSI.out.hand hj)
            have hyl : (xs.set wn sf).length = N := by rw [List.length_set]; exact HXL.out
            have HYP : RowKit.Hid ((xs.set wn sf).map (·.p) = (xs.map (·.p)).set wn ({ pz with ln := 20 } : Pl)) := Lib.hid (by rw [List.map_set, HEP.out])
            obtain ⟨ys, hys⟩ : ∃ ys, ys = xs.set wn sf := ⟨_, rfl⟩
            rw [← hys] at E13 hyl HYP
            have HYS := Lib.hid hys
            have HYL := Lib.hid hyl
            clear hz3 hgh cx hIb hys hyl
            go_loopw [20] (fun ii wr => ∃ (m : Nat), m ≤ S1.length ∧ ii = .int .i64 (m : Int) ∧ Bk wr gh (iv .i64 (smA E (smF S1 m))) 3 ∧ Below z2.heap.size z2 wr) (fun ii _ => S1.length - (intOf ii).toNat)
            case atStart => exact ⟨0, by omega, rfl, by rw [smA_congr (fun j _ => smF_zero)]; exact B14, b14⟩
            case round =>
              clear B14 b14
              obtain ⟨m, hm, rfl, B, bz⟩ := hrel
              by_cases hml : m < S1.length
              · have hdm : decide (m < S1.length) = true := by simp [hml]
                have hsumm : IntKind.i64.wrap ((m : Int) + 1) = (m : Int) + 1 := IntWalk.i64_in _ (by
                  have h1 := reads_le HRD.out
                  unfold maxLen at h1
                  simp only at h1
                  omega)
                obtain ⟨ad', cap', e1, _, _, h4⟩ := HRD.out
                simp only [Sl.v, Value.slice.injEq] at e1
                obtain ⟨rfl, -, rfl⟩ := e1
                rcases h4 with h4 | ⟨b0, off, rfl, hb0, hcl⟩
                · rw [List.map_eq_nil_iff] at h4
                  rw [h4] at hml
                  simp at hml
                · obtain ⟨b, hb⟩ : ∃ b, b = S1[m] := ⟨_, rfl⟩
                  have hbE : b < E := by rw [hb]; exact HBD.out _ (List.getElem_mem hml)
                  have hca := (bz.cell (p := ⟨b0, off + m, none⟩) hb0).trans (hcl m (by simpa using hml))
                  rw [show (S1.map Int.ofNat)[m]'(by simpa using hml) = (b : Int) by rw [hb]; simp] at hca
                  have hch : wr.cell? ⟨gh, b, none⟩ = some (.int .i64 (smF S1 m b : Int)) := by
                    rw [B.cells, iv_get (by rw [smA_len]; exact hbE), smA_get hbE]
                  have hfr : wr.frozen? ⟨gh, b, none⟩ = false := B.frozen b
                  have hle : smF S1 m b ≤ 1 := by have := HCN.out b hbE; have := smF_le (S := S1) (k := m) (j := b); omega
                  have HST1 := Lib.hid (fun (j : Nat) (hj : j < E) => show smF S1 (m + 1) j = if j = b then smF S1 m j + 1 else smF S1 m j by rw [hb]; exact smF_step hml)
                  obtain ⟨v, hv⟩ : ∃ v, v = smF S1 m b := ⟨_, rfl⟩
                  rw [← hv] at hch hle
                  have hsv : IntKind.i64.wrap ((v : Int) + 1) = (v : Int) + 1 := IntWalk.i64_in _ (by omega)
                  have B2 := B.setCell b (.int .i64 ((v : Int) + 1))
                  rw [iv_set, hv, smA_set hbE HST1.out, ← hv] at B2
                  have bz2 := bz.setCell (p := ⟨gh, b, none⟩) (by have := HGH.out; show z2.heap.size ≤ gh; omega) (.int .i64 ((v : Int) + 1))
                  have lb0 : b0 < wr.heap.size := Nat.lt_of_lt_of_le hb0 bz.size
                  have lgh := B.lt
                  have HB := Lib.hid hb
                  have HV := Lib.hid hv
                  clear hcl hb hv B bz
                  go_wp2
                  go_roundw
                  case rel => exact ⟨m + 1, by omega, by go_num, B2, bz2⟩
                  case measure => simp [intOf]; omega
              · obtain rfl : m = S1.length := by omega
                have hdm : decide (S1.length < S1.length) = false := by simp
                rw [smA_congr (fun j _ => smF_end.trans (smG_zero (Q := ys.map (·.p.i))).symm)] at B
                go_wp2
                go_loopw [21] (fun ii wr => ∃ (m : Nat), m ≤ N ∧ ii = .int .i64 (m : Int) ∧ Bk wr gh (iv .i64 (smA E (smG S1 (ys.map (·.p.i)) m))) 3 ∧ Below z2.heap.size z2 wr) (fun ii _ => N - (intOf ii).toNat)
                case atStart => exact ⟨0, by omega, rfl, B, bz⟩
                case round =>
                  clear B bz
                  obtain ⟨m, hm, rfl, B, bz⟩ := hrel
                  have E15 := E13.keep bz
                  have cx := E15.C.cells
                  have lgh := B.lt
                  have lga2 : ga < wr.heap.size := E15.A.lt
                  have lgc : gc < wr.heap.size := E15.C.lt
                  by_cases hml : m < N
                  · have hdm : decide (m < N) = true := by simp [hml]
                    have hsumm : IntKind.i64.wrap ((m : Int) + 1) = (m : Int) + 1 := IntWalk.i64_in _ (by omega)
                    have hmy : m < ys.length := by rw [HYL.out]; exact hml
                    obtain ⟨t, ht⟩ : ∃ t, t = ys[m].p.i := ⟨_, rfl⟩
                    have hct : wr.cell? ⟨ga, m * 33 + 20, none⟩ = some (.int .i64 t) := by
                      rw [wcs_cell E15.A hmy (by omega), ht]
                      rfl
                    have hgt : t = 0 ∨ (1 ≤ t ∧ t ≤ E) := by
                      have := HHD.out m hml
                      rw [← HYP.out, smP_map _ _ hmy, ← ht] at this
                      exact this
                    have hqg : (ys.map (·.p.i))[m]'(by simpa using hmy) = t := by rw [ht]; simp
                    have HSTG := Lib.hid (fun (j : Nat) => smG_step (S := S1) (Q := ys.map (·.p.i)) (k := m) (j := j) (by simpa using hmy))
                    rw [hqg] at HSTG

                    clear ht hqg hmy E15
                    rcases hgt with rfl | ⟨ht1, ht2⟩
                    · rw [smA_congr (fun j _ => show smG S1 (ys.map (·.p.i)) m j = smG S1 (ys.map (·.p.i)) (m + 1) j by rw [HSTG.out, if_neg (by omega)])] at B
                      go_wp2
                      go_roundw
                      case rel => exact ⟨m + 1, by omega, by go_num, B, bz⟩
                      case measure => simp [intOf]; omega
                    · obtain ⟨b, hb⟩ : ∃ b : Nat, t = (b : Int) + 1 := ⟨(t - 1).toNat, by omega⟩
                      have hbE : b < E := by omega
                      have hd0 : decide (0 < t) = true := by simp; omega
                      have hp0 : 0 < t := by omega
                      have hdE : decide (t ≤ (E : Int)) = true := by simp; omega
                      have hw1 : wrap64 (t - 1) = (b : Int) := by rw [hb]; unfold wrap64; omega
                      have hw2 : IntKind.i64.wrap (t - 1) = (b : Int) := by rw [hb]; exact (IntWalk.i64_in _ (by omega)).trans (by omega)
                      have hch : wr.cell? ⟨gh, b, none⟩ = some (.int .i64 (smG S1 (ys.map (·.p.i)) m b : Int)) := by
                        rw [B.cells, iv_get (by rw [smA_len]; exact hbE), smA_get hbE]
                      have hfr : wr.frozen? ⟨gh, b, none⟩ = false := B.frozen b
                      have hle : smG S1 (ys.map (·.p.i)) m b ≤ 1 := by
                        have h1 := HCN.out b hbE
                        have h2 := smG_le (S := S1) (Q := ys.map (·.p.i)) (k := m) (j := b)
                        rw [← HYP.out, List.map_map] at h1
                        have h3 : List.count ((b : Int) + 1) (List.map ((fun x : Pl => x.i) ∘ fun x : Wk => x.p) ys) = List.count ((b : Int) + 1) (ys.map (·.p.i)) := rfl
                        omega
                      have HST1 := Lib.hid (fun (j : Nat) (hj : j < E) => show smG S1 (ys.map (·.p.i)) (m + 1) j = if j = b then smG S1 (ys.map (·.p.i)) m j + 1 else smG S1 (ys.map (·.p.i)) m j by
                        rw [HSTG.out, hb]
                        by_cases q : j = b
                        · rw [if_pos (by omega), if_pos q]
                        · rw [if_neg (by omega), if_neg q])
                      obtain ⟨v, hv⟩ : ∃ v, v = smG S1 (ys.map (·.p.i)) m b := ⟨_, rfl⟩
                      rw [← hv] at hch hle
                      have hsv : IntKind.i64.wrap ((v : Int) + 1) = (v : Int) + 1 := IntWalk.i64_in _ (by omega)
                      have B2 := B.setCell b (.int .i64 ((v : Int) + 1))
                      rw [iv_set, hv, smA_set hbE HST1.out, ← hv] at B2
                      have bz2 := bz.setCell (p := ⟨gh, b, none⟩) (by have := HGH.out; show z2.heap.size ≤ gh; omega) (.int .i64 ((v : Int) + 1))
                      have HB := Lib.hid hb
                      have HV := Lib.hid hv
                      clear hb hv B bz
                      go_wp2
                      go_roundw
                      case rel => exact ⟨m + 1, by omega, by go_num, B2, bz2⟩
                      case measure => simp [intOf]; omega
                  · obtain rfl : N = m := by omega
                    have hdm : decide (N < N) = false := by simp
                    have B9 : Bk wr gh (iv .i64 (smA E (fun _ => 1))) 3 := by
                      rw [smA_congr (g := fun _ => 1) (fun j hj => by
                        rw [smG_end (by rw [List.length_map]; exact HYL.out)]
                        have h1 := HCN.out j hj
                        rw [← HYP.out, List.map_map] at h1
                        exact h1)] at B
                      exact B
                    clear B
                    go_wp2
                    go_loopw [23] (fun ii wi => wi = wr ∧ ∃ (m : Nat), m ≤ E ∧ ii = .int .i64 (m : Int)) (fun ii _ => E - (intOf ii).toNat)
                    case atStart => exact ⟨rfl, 0, by omega, rfl⟩
                    case round =>
                      obtain ⟨hwi, m, hm, rfl⟩ := hrel
                      subst hwi
                      by_cases hml : m < E
                      · have hdm : decide (m < E) = true := by simp [hml]
                        have hsumm : IntKind.i64.wrap ((m : Int) + 1) = (m : Int) + 1 := IntWalk.i64_in _ (by omega)
                        have hch := B9.cells m
                        rw [iv_get (by rw [smA_len]; exact hml), smA_get hml] at hch
                        go_wp2
                        go_roundw
                        case rel => exact ⟨by trivial, m + 1, by omega, by go_num⟩
                        case measure => simp [intOf]; omega
                      · obtain rfl : E = m := by omega
                        have hdm : decide (E < E) = false := by simp
                        go_wp2
                        go_roundw
                        case rel => exact ⟨k + 1, r.L, ys, S1, r.a, by go_num, by omega, by rw [HYP.out]; exact HSI.out, fun s hs => by
                            rw [HYS.out] at hs
                            rcases List.mem_or_eq_of_mem_set hs with q | rfl
                            · exact HEE.out s q
                            · exact HES.out, E15⟩
                        case measure => simp [intOf]; omega
          · obtain ⟨hwy, hl, rfl⟩ := hcase
            have t22 : (s0.p.ln == 22) = false := by simp [hl]
            clear hl
            go_wp2_with (first | (refine wpList_load_mid rfl 46 _ rfl ga (wn * 33) rfl (wc s0).toList _ (by exact HRG) Try.underlying46 rfl (by kernel_rfl) ?_))
            refine HS.out.mono ?_
            rintro e u9 ⟨s2, rfl, A9, M9, T9⟩
            obtain ⟨hem, hp2⟩ := Ems.of A9
            have E9 := E7.touch M9 T9
            have Z10 := Bk.new u9 (wc wz) 46
            have Y10 := boxed_bk u9 s2
            have bb10 := boxed_below u9 s2
            have E10 := E9.keep bb10
            have lga : ga < u9.heap.size := E9.A.lt
            obtain ⟨w10, hw10⟩ : ∃ u, u = (u9.alloc (.cells (wc wz) 46)).setRow u9.heap.size (wc s2) := ⟨_, rfl⟩
            rw [← hw10] at Y10 E10
            have HW10 := Lib.hid hw10
            clear hw10 bb10 A9 M9 T9 E9 HS E7 HRG
            have hcl : w10.cell? ⟨ga, wn * 33, none⟩ = some (.int .i64 s0.p.ln) := by
              have := wcs_cell E10.A hx0 (j := 0) (by omega)
              rw [← HS0.out] at this
              exact this
            clear hp2
            obtain ⟨sf, hsf⟩ : ∃ t : Wk, t = s20 := ⟨_, rfl⟩
            have E11 := E10.farRow lga (wc s20)
            have Y11 : Bk (w10.setRow u9.heap.size (wc s20)) u9.heap.size (wc sf) 46 := by rw [hsf]; exact Y10.setRow (wc s20)
            obtain ⟨w11, hw11⟩ : ∃ u, u = w10.setRow u9.heap.size (wc s20) := ⟨_, rfl⟩
            rw [← hw11] at E11 Y11
            have HW11 := Lib.hid hw11
            clear hw11 E10
            have E12 := E11.setA (wcs (xs.set wn sf))
            have EA := E11.A
            obtain ⟨w12, hw12⟩ : ∃ u, u = w11.setRow ga (wcs (xs.set wn sf)) := ⟨_, rfl⟩
            rw [← hw12] at E12
            have HW12 := Lib.hid hw12
            have hES : Ems sf := by rw [hsf]; exact ems_z _
            have hEP : (sf).p = ({ pz with ln := 20 } : Pl) := by rw [hsf]; first | done | rfl
            have HES := Lib.hid hES
            have HEP := Lib.hid hEP
            clear hw12 E11 hES hEP hem hsf
            go_wp2_with (first | ((with_reducible refine wpList_alloc_wz rfl rfl ?_)) | (refine wpList_store_row rfl 46 _ _ rfl (u9.heap.size) (wc s2) rfl rfl _ _ (by exact Z10) (by kernel_rfl) (by kernel_rfl) (by kernel_rfl) ?_; rw [← HW10.out]; clear HW10 Z10) | (refine wpList_store_row rfl 46 _ _ rfl (u9.heap.size) (wc s20) rfl rfl _ _ (by exact Y10) (by kernel_rfl) (by kernel_rfl) (by kernel_rfl) ?_; rw [← HW11.out]; clear HW11 Y10) | (refine wpList_load_row rfl 46 _ rfl (u9.heap.size) rfl _ (wc sf) (0, 0) _ (by exact Y11) Try.underlying46 rfl (by kernel_rfl) ?_) | ((with_reducible refine Sub.wpList_store_sub rfl 46 _ _ rfl ga (wn * 33) (wc sf) ?_ ?_ 46 (wcs xs) (wcs (xs.set wn sf)) ?_ ?_ ?_ ?_ ?_ ?_); exact rfl; exact rfl; exact EA; kernel_rfl; exact HROW.out; kernel_rfl; exact wcs_set hx0 sf; rw [← HW12.out]; clear HW12 EA))
            have hS0 : Below w12.heap.size w12 w12.drew := Below.drew (Below.refl _ _)
            refine wp_region_held_drew (S := fun w' => Below w12.heap.size w12 w') (by kernel_rfl) hS0 (fun hHeld => ?_)
            clear hS0
            generalize w12.drew = z0 at *
            refine wpAnyH_take (i := 0) (oi := _) (v := cv (cSm N E)) rfl (by kernel_rfl) (by kernel_rfl) (by kernel_rfl) (fun _ _ _ h => h) (Or.inl ⟨by rfl, fun w' hSw => by have xx := (E12.C.keep hSw).cells; go_simp⟩) hHeld ?_
            try simp only [Act.put, List.getElem_toArray, List.getElem_cons_succ, List.getElem_cons_zero, List.setIfInBounds_toArray, List.set_cons_succ, List.set_cons_zero]
            refine wpAnyH_take (i := 1) (oi := _) (v := .pointer (some ⟨g, 0, none⟩)) rfl (by kernel_rfl) (by kernel_rfl) (by kernel_rfl) (fun _ _ _ h => h) (Or.inl ⟨by rfl, fun w' hSw => by go_simp⟩) hHeld ?_
            try simp only [Act.put, List.getElem_toArray, List.getElem_cons_succ, List.getElem_cons_zero, List.setIfInBounds_toArray, List.set_cons_succ, List.set_cons_zero]
            refine wpAnyH_ready (rs := [2]) (by kernel_rfl) (by simp) ?_
            refine AllReadyH.cons (o := _) rfl (fun K hK => ?_) AllReadyH.nil
            go_simp
            refine (all_in (E12.M.keep hHeld) HM.out).mono ?_
            rintro e z1 ⟨ya, rfl, hya, hb⟩
            have hHeld' := hHeld.trans (hb.mono hHeld.size)
            refine hK.out _ _ hHeld' (fun hHeld => ?_)
            clear hK K hHeld'
            try simp only [Act.put, List.getElem_toArray, List.getElem_cons_succ, List.getElem_cons_zero, List.setIfInBounds_toArray, List.set_cons_succ, List.set_cons_zero]
            have rd1 := Reads.of_own hya rfl
            clear hb hya
            have HIN := Lib.hid (HLV.out _ _ rd1)
            clear rd1
            refine wpAnyH_ready (rs := [3]) (by kernel_rfl) (by simp) ?_
            refine AllReadyH.cons (o := _) rfl (fun K hK => ?_) AllReadyH.nil
            go_simp
            refine (HIN.out).mono ?_
            rintro e z2 ⟨y, rfl, hyo, hb⟩
            have hHeld' := hHeld.trans (hb.mono hHeld.size)
            refine hK.out _ _ hHeld' (fun hHeld => ?_)
            clear hK K hHeld' HIN
            try simp only [Act.put, List.getElem_toArray, List.getElem_cons_succ, List.getElem_cons_zero, List.setIfInBounds_toArray, List.set_cons_succ, List.set_cons_zero]
            have hrd := hyo.reads
            clear hb hyo
            obtain ⟨yd, yl, yc⟩ := y
            obtain rfl : S1.length = yl := by have := reads_len hrd; simp at this; exact this.symm
            have HRD := Lib.hid hrd
            clear hrd
            refine wpAnyH_take (i := 4) (oi := _) (v := .tuple #[.slice yd S1.length yc, .bool true]) rfl (by kernel_rfl) (by kernel_rfl) (by kernel_rfl) (fun _ _ _ h => h) (Or.inl ⟨by rfl, fun w' hSw => by go_simp⟩) hHeld ?_
            try simp only [Act.put, List.getElem_toArray, List.getElem_cons_succ, List.getElem_cons_zero, List.setIfInBounds_toArray, List.set_cons_succ, List.set_cons_zero]
            refine wpAnyH_take (i := 5) (oi := _) (v := .slice yd S1.length yc) rfl (by kernel_rfl) (by kernel_rfl) (by kernel_rfl) (fun _ _ _ h => h) (Or.inl ⟨by rfl, fun w' hSw => by go_simp⟩) hHeld ?_
            try simp only [Act.put, List.getElem_toArray, List.getElem_cons_succ, List.getElem_cons_zero, List.setIfInBounds_toArray, List.set_cons_succ, List.set_cons_zero]
            refine wpAnyH_take (i := 6) (oi := _) (v := .bool true) rfl (by kernel_rfl) (by kernel_rfl) (by kernel_rfl) (fun _ _ _ h => h) (Or.inl ⟨by rfl, fun w' hSw => by go_simp⟩) hHeld ?_
            try simp only [Act.put, List.getElem_toArray, List.getElem_cons_succ, List.getElem_cons_zero, List.setIfInBounds_toArray, List.set_cons_succ, List.set_cons_zero]
            refine wpAnyH_take (i := 7) (oi := _) (v := .slice yd S1.length yc) rfl (by kernel_rfl) (by kernel_rfl) (by kernel_rfl) (fun _ _ _ h => h) (Or.inl ⟨by rfl, fun w' hSw => by go_simp⟩) hHeld ?_
            try simp only [Act.put, List.getElem_toArray, List.getElem_cons_succ, List.getElem_cons_zero, List.setIfInBounds_toArray, List.set_cons_succ, List.set_cons_zero]
            refine wpAnyH_take (i := 8) (oi := _) (v := .bool true) rfl (by kernel_rfl) (by kernel_rfl) (by kernel_rfl) (fun _ _ _ h => h) (Or.inl ⟨by rfl, fun w' hSw => by go_simp⟩) hHeld ?_
            try simp only [Act.put, List.getElem_toArray, List.getElem_cons_succ, List.getElem_cons_zero, List.setIfInBounds_toArray, List.set_cons_succ, List.set_cons_zero]
            refine wpAnyH_done (by kernel_rfl) ?_ _
            have E13 := E12.keep hHeld
            clear hHeld E12
            have cx := E13.C.cells
            have B14 := Bk.new z2 (iv .i64 (List.replicate E 0)) 3
            have b14 : Below z2.heap.size z2 (z2.alloc (.cells (iv .i64 (List.replicate E 0)) 3)) := (Below.refl _ _).alloc (Nat.le_refl _) _
            go_wp2_with (refine make_row Try.underlying28 infoI (by decide) rfl _ _ rfl E rfl rfl (by omega) ?_)
            obtain ⟨z3, hz3⟩ : ∃ u, u = z2.alloc (.cells (iv .i64 (List.replicate E 0)) 3) := ⟨_, rfl⟩
            rw [← hz3] at B14 b14 ⊢
            obtain ⟨gh, hgh⟩ : ∃ u, u = z2.heap.size := ⟨_, rfl⟩
            rw [← hgh] at B14 ⊢
            have HGH := Lib.hid hgh
            rw [← smA_zero] at B14
            have hIb := HSI.out.bd
            have HBD := Lib.hid hIb
            have HCN := Lib.hid HSI.out.cnt
            have HHD := Lib.hid (fun (j : Nat) (hj : j < N) => HSI.out.hand hj)
            have hyl : (xs.set wn sf).length = N := by rw [List.length_set]; exact HXL.out
            have HYP : RowKit.Hid ((xs.set wn sf).map (·.p) = (xs.map (·.p)).set wn ({ pz with ln := 20 } : Pl)) := Lib.hid (by rw [List.map_set, HEP.out])
            obtain ⟨ys, hys⟩ : ∃ ys, ys = xs.set wn sf := ⟨_, rfl⟩
            rw [← hys] at E13 hyl HYP
            have HYS := Lib.hid hys
            have HYL := Lib.hid hyl
            clear hz3 hgh cx hIb hys hyl
            go_loopw [20] (fun ii wr => ∃ (m : Nat), m ≤ S1.length ∧ ii = .int .i64 (m : Int) ∧ Bk wr gh (iv .i64 (smA E (smF S1 m))) 3 ∧ Below z2.heap.size z2 wr) (fun ii _ => S1.length - (intOf ii).toNat)
            case atStart => exact ⟨0, by omega, rfl, by rw [smA_congr (fun j _ => smF_zero)]; exact B14, b14⟩
            case round =>
              clear B14 b14
              obtain ⟨m, hm, rfl, B, bz⟩ := hrel
              by_cases hml : m < S1.length
              · have hdm : decide (m < S1.length) = true := by simp [hml]
                have hsumm : IntKind.i64.wrap ((m : Int) + 1) = (m : Int) + 1 := IntWalk.i64_in _ (by
                  have h1 := reads_le HRD.out
                  unfold maxLen at h1
                  simp only at h1
                  omega)
                obtain ⟨ad', cap', e1, _, _, h4⟩ := HRD.out
                simp only [Sl.v, Value.slice.injEq] at e1
                obtain ⟨rfl, -, rfl⟩ := e1
                rcases h4 with h4 | ⟨b0, off, rfl, hb0, hcl⟩
                · rw [List.map_eq_nil_iff] at h4
                  rw [h4] at hml
                  simp at hml
                · obtain ⟨b, hb⟩ : ∃ b, b = S1[m] := ⟨_, rfl⟩
                  have hbE : b < E := by rw [hb]; exact HBD.out _ (List.getElem_mem hml)
                  have hca := (bz.cell (p := ⟨b0, off + m, none⟩) hb0).trans (hcl m (by simpa using hml))
                  rw [show (S1.map Int.ofNat)[m]'(by simpa using hml) = (b : Int) by rw [hb]; simp] at hca
                  have hch : wr.cell? ⟨gh, b, none⟩ = some (.int .i64 (smF S1 m b : Int)) := by
                    rw [B.cells, iv_get (by rw [smA_len]; exact hbE), smA_get hbE]
                  have hfr : wr.frozen? ⟨gh, b, none⟩ = false := B.frozen b
                  have hle : smF S1 m b ≤ 1 := by have := HCN.out b hbE; have := smF_le (S := S1) (k := m) (j := b); omega
                  have HST1 := Lib.hid (fun (j : Nat) (hj : j < E) => show smF S1 (m + 1) j = if j = b then smF S1 m j + 1 else smF S1 m j by rw [hb]; exact smF_step hml)
                  obtain ⟨v, hv⟩ : ∃ v, v = smF S1 m b := ⟨_, rfl⟩
                  rw [← hv] at hch hle
                  have hsv : IntKind.i64.wrap ((v : Int) + 1) = (v : Int) + 1 := IntWalk.i64_in _ (by omega)
                  have B2 := B.setCell b (.int .i64 ((v : Int) + 1))
                  rw [iv_set, hv, smA_set hbE HST1.out, ← hv] at B2
                  have bz2 := bz.setCell (p := ⟨gh, b, none⟩) (by have := HGH.out; show z2.heap.size ≤ gh; omega) (.int .i64 ((v : Int) + 1))
                  have lb0 : b0 < wr.heap.size := Nat.lt_of_lt_of_le hb0 bz.size
                  have lgh := B.lt
                  have HB := Lib.hid hb
                  have HV := Lib.hid hv
                  clear hcl hb hv B bz
                  go_wp2
                  go_roundw
                  case rel => exact ⟨m + 1, by omega, by go_num, B2, bz2⟩
                  case measure => simp [intOf]; omega
              · obtain rfl : m = S1.length := by omega
                have hdm : decide (S1.length < S1.length) = false := by simp
                rw [smA_congr (fun j _ => smF_end.trans (smG_zero (Q := ys.map (·.p.i))).symm)] at B
                go_wp2
                go_loopw [21] (fun ii wr => ∃ (m : Nat), m ≤ N ∧ ii = .int .i64 (m : Int) ∧ Bk wr gh (iv .i64 (smA E (smG S1 (ys.map (·.p.i)) m))) 3 ∧ Below z2.heap.size z2 wr) (fun ii _ => N - (intOf ii).toNat)
                case atStart => exact ⟨0, by omega, rfl, B, bz⟩
                case round =>
                  clear B bz
                  obtain ⟨m, hm, rfl, B, bz⟩ := hrel
                  have E15 := E13.keep bz
                  have cx := E15.C.cells
                  have lgh := B.lt
                  have lga2 : ga < wr.heap.size := E15.A.lt
                  have lgc : gc < wr.heap.size := E15.C.lt
                  by_cases hml : m < N
                  · have hdm : decide (m < N) = true := by simp [hml]
                    have hsumm : IntKind.i64.wrap ((m : Int) + 1) = (m : Int) + 1 := IntWalk.i64_in _ (by omega)
                    have hmy : m < ys.length := by rw [HYL.out]; exact hml
                    obtain ⟨t, ht⟩ : ∃ t, t = ys[m].p.i := ⟨_, rfl⟩
                    have hct : wr.cell? ⟨ga, m * 33 + 20, none⟩ = some (.int .i64 t) := by
                      rw [wcs_cell E15.A hmy (by omega), ht]
                      rfl
                    have hgt : t = 0 ∨ (1 ≤ t ∧ t ≤ E) := by
                      have := HHD.out m hml
                      rw [← HYP.out, smP_map _ _ hmy, ← ht] at this
                      exact this
                    have hqg : (ys.map (·.p.i))[m]'(by simpa using hmy) = t := by rw [ht]; simp
                    have HSTG := Lib.hid (fun (j : Nat) => smG_step (S := S1) (Q := ys.map (·.p.i)) (k := m) (j := j) (by simpa using hmy))
                    rw [hqg] at HSTG

                    clear ht hqg hmy E15
                    rcases hgt with rfl | ⟨ht1, ht2⟩
                    · rw [smA_congr (fun j _ => show smG S1 (ys.map (·.p.i)) m j = smG S1 (ys.map (·.p.i)) (m + 1) j by rw [HSTG.out, if_neg (by omega)])] at B
                      go_wp2
                      go_roundw
                      case rel => exact ⟨m + 1, by omega, by go_num, B, bz⟩
                      case measure => simp [intOf]; omega
                    · obtain ⟨b, hb⟩ : ∃ b : Nat, t = (b : Int) + 1 := ⟨(t - 1).toNat, by omega⟩
                      have hbE : b < E := by omega
                      have hd0 : decide (0 < t) = true := by simp; omega
                      have hp0 : 0 < t := by omega
                      have hdE : decide (t ≤ (E : Int)) = true := by simp; omega
                      have hw1 : wrap64 (t - 1) = (b : Int) := by rw [hb]; unfold wrap64; omega
                      have hw2 : IntKind.i64.wrap (t - 1) = (b : Int) := by rw [hb]; exact (IntWalk.i64_in _ (by omega)).trans (by omega)
                      have hch : wr.cell? ⟨gh, b, none⟩ = some (.int .i64 (smG S1 (ys.map (·.p.i)) m b : Int)) := by
                        rw [B.cells, iv_get (by rw [smA_len]; exact hbE), smA_get hbE]
                      have hfr : wr.frozen? ⟨gh, b, none⟩ = false := B.frozen b
                      have hle : smG S1 (ys.map (·.p.i)) m b ≤ 1 := by
                        have h1 := HCN.out b hbE
                        have h2 := smG_le (S := S1) (Q := ys.map (·.p.i)) (k := m) (j := b)
                        rw [← HYP.out, List.map_map] at h1
                        have h3 : List.count ((b : Int) + 1) (List.map ((fun x : Pl => x.i) ∘ fun x : Wk => x.p) ys) = List.count ((b : Int) + 1) (ys.map (·.p.i)) := rfl
                        omega
                      have HST1 := Lib.hid (fun (j : Nat) (hj : j < E) => show smG S1 (ys.map (·.p.i)) (m + 1) j = if j = b then smG S1 (ys.map (·.p.i)) m j + 1 else smG S1 (ys.map (·.p.i)) m j by
                        rw [HSTG.out, hb]
                        by_cases q : j = b
                        · rw [if_pos (by omega), if_pos q]
                        · rw [if_neg (by omega), if_neg q])
                      obtain ⟨v, hv⟩ : ∃ v, v = smG S1 (ys.map (·.p.i)) m b := ⟨_, rfl⟩
                      rw [← hv] at hch hle
                      have hsv : IntKind.i64.wrap ((v : Int) + 1) = (v : Int) + 1 := IntWalk.i64_in _ (by omega)
                      have B2 := B.setCell b (.int .i64 ((v : Int) + 1))
                      rw [iv_set, hv, smA_set hbE HST1.out, ← hv] at B2
                      have bz2 := bz.setCell (p := ⟨gh, b, none⟩) (by have := HGH.out; show z2.heap.size ≤ gh; omega) (.int .i64 ((v : Int) + 1))
                      have HB := Lib.hid hb
                      have HV := Lib.hid hv
                      clear hb hv B bz
                      go_wp2
                      go_roundw
                      case rel => exact ⟨m + 1, by omega, by go_num, B2, bz2⟩
                      case measure => simp [intOf]; omega
                  · obtain rfl : N = m := by omega
                    have hdm : decide (N < N) = false := by simp
                    have B9 : Bk wr gh (iv .i64 (smA E (fun _ => 1))) 3 := by
                      rw [smA_congr (g := fun _ => 1) (fun j hj => by
                        rw [smG_end (by rw [List.length_map]; exact HYL.out)]
                        have h1 := HCN.out j hj
                        rw [← HYP.out, List.map_map] at h1
                        exact h1)] at B
                      exact B
                    clear B
                    go_wp2
                    go_loopw [23] (fun ii wi => wi = wr ∧ ∃ (m : Nat), m ≤ E ∧ ii = .int .i64 (m : Int)) (fun ii _ => E - (intOf ii).toNat)
                    case atStart => exact ⟨rfl, 0, by omega, rfl⟩
                    case round =>
                      obtain ⟨hwi, m, hm, rfl⟩ := hrel
                      subst hwi
                      by_cases hml : m < E
                      · have hdm : decide (m < E) = true := by simp [hml]
                        have hsumm : IntKind.i64.wrap ((m : Int) + 1) = (m : Int) + 1 := IntWalk.i64_in _ (by omega)
                        have hch := B9.cells m
                        rw [iv_get (by rw [smA_len]; exact hml), smA_get hml] at hch
                        go_wp2
                        go_roundw
                        case rel => exact ⟨by trivial, m + 1, by omega, by go_num⟩
                        case measure => simp [intOf]; omega
                      · obtain rfl : E = m := by omega
                        have hdm : decide (E < E) = false := by simp
                        go_wp2
                        go_roundw
                        case rel => exact ⟨k + 1, r.L, ys, S1, r.a, by go_num, by omega, by rw [HYP.out]; exact HSI.out, fun s hs => by
                            rw [HYS.out] at hs
                            rcases List.mem_or_eq_of_mem_set hs with q | rfl
                            · exact HEE.out s q
                            · exact HES.out, E15⟩
                        case measure => simp [intOf]; omega
        · obtain rfl : pk.length = k := by omega
          have hdk : decide ((pk.length : Int) < (pk.length : Int)) = false := by simp
          go_wp2
          go_ret
          exact ⟨rfl, E'.hb⟩
theorem stackMany (n0 n1 : Int) (hn0 : 0 ≤ n0 ∧ n0 < 256) (hn1 : 0 ≤ n1 ∧ n1 < 256) (v : Sl) (pk : List Int) (w : World) (hr : Reads w .u8 v.v pk) (hpk : ∀ x ∈ pk, 0 ≤ x ∧ x < 256) : Calls Try.prog 5 #[.int .u8 n0, .int .u8 n1, v.v] w fun e w' => e = .returned (.bool true) ∧ Below w.heap.size w w' := by
  have hl := reads_len hr
  have hle := reads_le hr
  obtain ⟨ad, n, cap⟩ := v
  simp only at hl hle
  unfold maxLen at hle
  by_cases hlong : 600 < n
  · exact sm_long n0 n1 hn0 hn1 ad n cap hlong (by omega) w
  · obtain ⟨ad', cap', e1, _, _, h4⟩ := hr
    simp only [Sl.v, Value.slice.injEq] at e1
    obtain ⟨rfl, e2, rfl⟩ := e1
    rcases h4 with h4 | ⟨b0, off, rfl, hb0, hc⟩
    · subst h4
      simp only [List.length_nil] at hl
      subst hl
      exact sm_nil n0 n1 hn0 hn1 ad cap w
    · subst hl
      exact sm_main n0 n1 hn0 hn1 b0 off cap pk hpk (by omega) w hb0 hc
end Go.Proofs.Ytblkfbbdeodpjaa.Me
