/- The law BagWaits, walked (made by genbwalk.py). -/
import Derived.Test.YtkplkhcboobfaaaBagWt
import Derived.Test.YtkplkhcboobfaaaOpenList
import Derived.RegionTactic
import Derived.IntWalk
namespace Go.Proofs.Ytkplkhcboobfaaa.Wo
open Go Go.RowKit Go.Proofs.Ytkplkhcboobfaaa.Gro Go.Proofs.Ytkplkhcboobfaaa.Own Go.Proofs.Ytkplkhcboobfaaa.Wd Go.Proofs.Ytkplkhcboobfaaa.Ap Go.Proofs.Ytkplkhcboobfaaa.Pl
set_option linter.unusedVariables false
set_option linter.unusedSimpArgs false
set_option maxRecDepth 100000 in
theorem bagWaits_long (c : Cfg) (ad : Option Addr) (n cap : Nat) (hn : 40 < n) (hm : n ≤ 9223372036854775807) (w : World) :
    Calls Try.prog 6 #[cv c, .slice ad n cap] w fun r w' => r = .returned (.bool true) ∧ Below w.heap.size w w' := by
  go_enter Try.func6, Try.ntmps6
  go_wp2_with fail
  refine (awake5 _).mono ?_
  rintro r w1 ⟨rfl, hb1⟩
  have hw1 : Below w.heap.size w w1 := ((Below.refl _ _).alloc (Nat.le_refl _) _).trans (hb1.mono (by simp))
  go_wp2
  go_ret
  exact ⟨rfl, hw1⟩
set_option maxRecDepth 100000 in
set_option maxHeartbeats 40000000 in
theorem bagWaits_pos (c : Cfg) (b off cap : Nat) (L : List Int) (hn : L.length ≤ 40) (w : World) (hr : ∀ k (h : k < L.length), w.cell? ⟨b, off + k, none⟩ = some (.int .u8 L[k])) (hb : b < w.heap.size) (hf : ∀ k (h : k < L.length), 0 ≤ L[k] ∧ L[k] < 256) :
    Calls Try.prog 6 #[cv c, .slice (some ⟨b, off, none⟩) L.length cap] w fun r w' => r = .returned (.bool true) ∧ Below w.heap.size w w' := by
  have HR : RowKit.Hid (∀ k (h : k < L.length) {w' : World}, Below w.heap.size w w' → w'.cell? ⟨b, off + k, none⟩ = some (.int .u8 L[k])) := Lib.hid (fun k h w' hbl => (hbl.cell (p := ⟨b, off + k, none⟩) hb).trans (hr k h))
  have HF := Lib.hid hf
  clear hr hb hf
  have hbz := build_wE
  have E9 : ∀ s : Wk, (wc s)[9]? = some (.int .u64 s.p.ep) := fun _ => rfl
  have E17 : ∀ s : Wk, (wc s)[17]? = some (.slice s.hl.ad s.hl.len s.hl.cap) := fun _ => rfl
  have HE9 := Lib.hid E9
  have HE17 := Lib.hid E17
  clear E9 E17
  go_enter Try.func6, Try.ntmps6
  go_wp2_with fail
  refine (awake5 _).mono ?_
  rintro r w1 ⟨rfl, hb1⟩
  have C1 := (Bk.new w (ccW c) 24).keep hb1
  have hw1 : Below w.heap.size w w1 := ((Below.refl _ _).alloc (Nat.le_refl _) _).trans (hb1.mono (by simp))
  have Z1 := Bk.new w1 (wc wz) 63
  have hgx : w.heap.size ≤ w1.heap.size := hw1.size
  have B2 := boxed_below w1 wE
  have M2 : Below ((w1.alloc (.cells (wc wz) 63)).setRow w1.heap.size (wc wE)).heap.size ((w1.alloc (.cells (wc wz) 63)).setRow w1.heap.size (wc wE)) (((w1.alloc (.cells (wc wz) 63)).setRow w1.heap.size (wc wE)).alloc (.cells (iv .u64 (List.replicate L.length 0)) 22)) := (Below.refl _ _).alloc (Nat.le_refl _) _
  have V0 : Wt w c w1.heap.size (w1.heap.size + 1) wE xE0 (List.replicate L.length 0) (((w1.alloc (.cells (wc wz) 63)).setRow w1.heap.size (wc wE)).alloc (.cells (iv .u64 (List.replicate L.length 0)) 22)) :=
    ⟨(C1.keep B2).keep M2, (boxed_bk w1 wE).keep M2, ⟨rfl, Reads.nil _ _, Reads.nil _ _, Reads.nil _ _, Reads.nil _ _, Reads.nil _ _, Reads.nil _ _⟩, by have := Bk.new ((w1.alloc (.cells (wc wz) 63)).setRow w1.heap.size (wc wE)) (iv .u64 (List.replicate L.length 0)) 22; simpa using this, hgx, by omega, ⟨.inl rfl, .inl rfl, .inl rfl, .inl rfl, .inl rfl, .inl rfl⟩, ⟨.inl rfl, .inl rfl, .inl rfl, .inl rfl, .inl rfl, .inl rfl⟩, (hw1.trans (B2.mono hw1.size)).trans (M2.mono (by have := (hw1.trans (B2.mono hw1.size)).size; exact this))⟩
  go_wp2_with (first | (refine wpList_alloc_wz rfl rfl ?_) | (refine wpList_store_row rfl 63 _ _ rfl (w1.heap.size) (wc wE) rfl rfl _ _ (by exact Z1) (by kernel_rfl) (by kernel_rfl) (by kernel_rfl) ?_) | (refine make_row Try.underlying25 infoU (by decide) rfl _ _ rfl L.length rfl rfl (by omega) ?_))
  obtain ⟨u0, hu0⟩ : ∃ u, u = ((w1.alloc (.cells (wc wz) 63)).setRow w1.heap.size (wc wE)).alloc (.cells (iv .u64 (List.replicate L.length 0)) 22) := ⟨_, rfl⟩
  rw [← hu0] at V0 ⊢
  obtain ⟨gx, hgx'⟩ : ∃ g, g = w1.heap.size := ⟨_, rfl⟩
  rw [← hgx'] at V0 ⊢
  obtain ⟨gt, hgt'⟩ : ∃ g, g = gx + 1 := ⟨_, rfl⟩
  rw [← hgt'] at V0 ⊢
  clear hu0 hgx' hgt' Z1 C1 hw1 hbz hb1 B2 M2 hgx
  have HV := Lib.hid V0
  clear V0
  go_loopw [7, 8] (fun hh i wr => ∃ (k : Nat) (x : St) (s : Wk) (T : List Int), k ≤ L.length ∧ i = .int .i64 k ∧ hh = .int .i64 (x.hl.length : Int) ∧ WInv L.length k x T ∧ Wt w c gx gt s x T wr) (fun _ i _ => L.length - (intOf i).toNat)
  case atStart => exact ⟨0, xE0, wE, _, Nat.zero_le _, rfl, rfl, winv_start _, HV.out⟩
  case round =>
    obtain ⟨k, x, s, T, hk, rfl, rfl, I, V⟩ := hrel
    clear HV
    by_cases hlt : k < L.length
    · -- a round
      have hrb := HR.out k hlt V.below
      obtain ⟨d0, hd0⟩ : ∃ d, (L[k]).tmod 6 = d := ⟨_, rfl⟩
      have hf := HF.out k hlt
      have hdd : 0 ≤ d0 ∧ d0 ≤ 5 := by
        rw [← hd0, Int.tmod_eq_emod_of_nonneg hf.1]
        omega
      have hcv : IntKind.u64.wrap L[k] = L[k] := u64_in hf.1 (by omega)
      have hep : s.p.ep = x.p.ep := by rw [V.L.p]
      have hE0 := I.ep0
      have hE1 := I.ep1
      obtain ⟨e, he⟩ : ∃ e, e = x.p.ep + d0 := ⟨_, rfl⟩
      have heb : 2 ≤ e ∧ e ≤ 300 := by omega
      have hsum : IntKind.u64.wrap (s.p.ep + d0) = e := by rw [hep, ← he]; exact u64_in (by omega) (by omega)
      have R := round_of I hlt hn d0 c.bg hdd.1 hdd.2
      rw [← he] at R
      have HRd := Lib.hid R
      have e9 := HE9.out s
      have xx := V.X.cells
      have xz := V.X.frozen
      have xl := V.X.lt
      have hq := I.all
      have HI := Lib.hid I
      have HV2 := Lib.hid (fun w' (hb : Below wr.heap.size wr w') => (V.keep hb).cellE e)
      have HXF := Lib.hid (show Few 400 (withE x e) from ⟨by simp [withE, I.rk], by simp [withE]; omega, by simp [withE]; omega, by simp [withE]; omega, by simp [withE]; omega, by simp [withE, I.rd]⟩)
      clear I R hep he hE0 hE1 hdd V
      go_wp2_with fail
      go_region
      all_goals
        have V1 := (HV2.out _ (Below.refl _ _)).keep ((Below.refl (wr.setCell ⟨gx, 9, none⟩ (.int .u64 e)).heap.size (wr.setCell ⟨gx, 9, none⟩ (.int .u64 e))).drew)
        generalize (wr.setCell ⟨gx, 9, none⟩ (.int .u64 e)).drew = w3 at *
        clear HV2 xx xz xl hrb e9 hsum
        have hp := bagPut c _ (withE x e) HXF.out k w3 V1.L
        have HP := Lib.hid hp
        clear hp
        go_wp2_with (first | (refine wpList_load_row rfl 24 _ rfl w.heap.size rfl _ (ccW c) (0, 0) _ (by exact V1.C) Try.underlying24 rfl (by kernel_rfl) ?_) | (refine wpList_load_row rfl 63 _ rfl (gx) rfl _ (wc { s with p := { s.p with ep := e } }) (0, 0) _ (by exact V1.X) Try.underlying63 rfl (by kernel_rfl) ?_))
        refine HP.out.mono ?_
        rintro r w4 ⟨s2, rfl, L2, hb4⟩
        obtain ⟨y, hy⟩ : ∃ y, y = (putB c.bg (withE x e) k).1 := ⟨_, rfl⟩
        obtain ⟨ok, hok⟩ : ∃ ok, ok = (putB c.bg (withE x e) k).2 := ⟨_, rfl⟩
        rw [← hy] at L2
        have HRn := HRd.out
        rw [← hy, ← hok] at HRn
        rw [← hok]
        clear hy hok HP HRd
        have V4 := (V1.keep hb4).keep (boxed_below w4 s2)
        have Z4 := Bk.new w4 (wc wz) 63
        have hz3 := V1.X.lt
        have hz4 := V1.T.lt
        have Y4 := boxed_bk w4 s2
        have LL := L2.keep (boxed_below w4 s2)
        clear V1 hb4 L2
        have hT : k < T.length := by rw [HI.out.len]; exact hlt
        have hdT : (T.set k (if ok = true then e + 1 else 0)) = T.set k (if ok = true then e + 1 else 0) := rfl
        have hse : IntKind.u64.wrap (e + 1) = e + 1 := u64_in (by omega) (by omega)
        obtain ⟨M, hyM, hM⟩ := HRn.hl
        have hyl := reads_len LL.lies.hl
        have hfw := HRn.few
        have hle1 : x.hl.length ≤ s2.hl.len := by rw [hyl, hyM]; simp
        have hle2 : s2.hl.len ≤ L.length := by rw [hyl]; exact hfw
        have HM := Lib.hid hM
        have HyM := Lib.hid hyM
        have HYL := Lib.hid hyl
        have HRR := Lib.hid HRn
        have d1 : decide (s2.hl.len < x.hl.length) = false := by simp; omega
        have d2 : decide (L.length < s2.hl.len) = false := by simp; omega
        obtain ⟨wo, rfl⟩ : ∃ wo : World, wo = wr := ⟨_, rfl⟩
        clear hM hyM hyl hfw HRn hq hdT
        have V5k := V4.tag k (if ok = true then e + 1 else 0)
        have Y5k := Y4.setCell_far (a := ⟨gt, k, none⟩) (bk_ne Y4 V4.T (by decide)) (.int .u64 (if ok = true then e + 1 else 0))
        have L5k := LL.setCell (g := gt) hz4 k (.int .u64 (if ok = true then e + 1 else 0))
        have x4 := V4.X.cells
        have y4 := Y5k.cells
        obtain ⟨tk, htk⟩ : ∃ tk : Int, tk = T[k] := ⟨_, rfl⟩
        have tc4 : ((w4.alloc (.cells (wc wz) 63)).setRow w4.heap.size (wc s2)).cell? ⟨gt, k, none⟩ = some (.int .u64 tk) := by rw [htk, V4.T.cells, iv_get hT]
        have tf4 := V4.T.frozen k
        have tl4 := V4.T.lt
        have e9 : (wc { s with p := { s.p with ep := e } })[9]? = some (.int .u64 e) := rfl
        have e17 := HE17.out s2
        have hgy : w4.heap.size < ((w4.alloc (.cells (wc wz) 63)).setRow w4.heap.size (wc s2)).heap.size := by simp
        have HV5 := Lib.hid V5k
        have HY5 := Lib.hid Y5k
        have HL5 := Lib.hid L5k
        have HV4 := Lib.hid V4
        clear V5k Y5k L5k LL htk hT V4
        cases ok
        · simp only [Bool.false_eq_true, if_false, if_true, reduceIte] at HV5 HY5 HL5 HRR HM y4
          go_wp2_with (first | (refine wpList_alloc_wz rfl rfl ?_) | (refine wpList_store_row rfl 63 _ _ rfl (w4.heap.size) (wc s2) rfl rfl _ _ (by exact Z4) (by kernel_rfl) (by kernel_rfl) (by kernel_rfl) ?_))
          have V5 := HV5.out
          have Y5 := HY5.out
          have L5 := HL5.out
          obtain ⟨T', hT'⟩ : ∃ T' : List Int, T' = T.set k 0 := ⟨_, rfl⟩
          rw [← hT'] at V5 HRR HM
          obtain ⟨u5, hu5⟩ : ∃ u5, u5 = ((w4.alloc (.cells (wc wz) 63)).setRow w4.heap.size (wc s2)).setCell ⟨gt, k, none⟩ (.int .u64 0) := ⟨_, rfl⟩
          rw [← hu5] at V5 Y5 L5 ⊢
          obtain ⟨gy, hgy'⟩ : ∃ g, g = w4.heap.size := ⟨_, rfl⟩
          rw [← hgy'] at Y5 ⊢
          clear hu5 hgy' hgy HV5 HY5 HL5 HV4 x4 y4 tc4 tf4 tl4 Y4 Z4 hT' e17 e9 hse d1 d2
          have H5 := Lib.hid (And.intro V5 (And.intro Y5 L5))
          clear V5 Y5 L5
          go_loopw [11, 12] (fun i bb wi => ∃ t : Nat, x.hl.length ≤ t ∧ t ≤ s2.hl.len ∧ i = .int .i64 t ∧ Below u5.heap.size u5 wi) (fun i _ _ => s2.hl.len - (intOf i).toNat)
          case atStart => exact ⟨x.hl.length, Nat.le_refl _, hle1, rfl, Below.refl _ _⟩
          case round =>
            obtain ⟨t, ht1, ht2, rfl, hbi⟩ := hrel
            have V6 := H5.out.1.keep hbi
            have Y6 := H5.out.2.1.keep hbi
            have L6 := H5.out.2.2.keep hbi
            have yl := Y6.lt
            by_cases htl : t < s2.hl.len
            · have hty : t < y.hl.length := by have := HYL.out; omega
              obtain ⟨bh, oh, had, hch⟩ := reads_at L6.lies.hl hty
              have hmem : y.hl[t] ∈ M := by
                have e1 := HyM.out
                have : y.hl[t] = (x.hl ++ M)[t]'(by rw [← e1]; exact hty) := by congr 1
                rw [this, List.getElem_append_right ht1]
                exact List.getElem_mem _
              obtain ⟨m0, m1, m2, m3⟩ := HM.out _ hmem
              obtain ⟨m, hm⟩ : ∃ m : Nat, y.hl[t] = (m : Int) := ⟨(y.hl[t]).toNat, by omega⟩
              rw [hm] at m0 m1 m2 m3 hch
              simp only [Int.toNat_natCast] at m2 m3
              have hmT : m < T'.length := by rw [HRR.out.inv.len]; omega
              obtain ⟨tv, htv⟩ : ∃ tv : Int, tv = T'.getD m 0 := ⟨_, rfl⟩
              rw [← htv] at m2 m3
              have tv0 : 0 ≤ tv := by rw [htv]; exact HRR.out.inv.pos m
              have hct : wr.cell? ⟨gt, m, none⟩ = some (.int .u64 tv) := by
                rw [V6.T.cells, iv_get hmT, htv, List.getD_eq_getElem?_getD, List.getElem?_eq_getElem hmT]; rfl
              have q17 : wr.cell? ⟨gy, 17, none⟩ = some (.slice (some ⟨bh, oh, none⟩) s2.hl.len s2.hl.cap) := by rw [Y6.cells, ← had]; rfl
              have q9 : wr.cell? ⟨gx, 9, none⟩ = some (.int .u64 e) := by rw [V6.X.cells]; rfl
              have hs2 : IntKind.u64.wrap (tv + 2) = tv + 2 := u64_in (by omega) (by omega)
              have c1 : decide ((m : Int) < 0) = false := by simp <;> omega
              have c2 : decide (k ≤ m) = false := by simp; omega
              have c2' : decide ((k : Int) ≤ (m : Int)) = false := by simp; omega
              have c3 : (tv == 0) = false := by simp; omega
              have c4 : decide (e < tv + 2) = false := by simp; omega
              have gl1 := V6.T.lt
              have gl2 := V6.X.lt
              have hbh : bh < wr.heap.size := block_lt_of_cell hch
              have hsum : IntKind.i64.wrap ((t : Int) + 1) = (t : Int) + 1 := IntWalk.i64_in _ (by omega)
              have HBI := Lib.hid hbi
              clear V6 Y6 L6 hmem hm m0 m2 m3 htv had hbi
              go_wp2
              refine wp_region_grown (by kernel_rfl) (by kernel_rfl) ?_
              have hg := @gcell
              repeat (go_big_quiet_step (fail))
              refine wpQuiet_nil ?_
              rintro w7 ⟨⟨_, hb7⟩, rfl⟩
              clear hg
              have HB8 := Lib.hid (HBI.out.trans (hb7.mono HBI.out.size))
              clear hct q17 q9 hch hb7
              go_wp2
              go_roundw
              case rel => exact ⟨t + 1, by omega, by omega, by go_num, HB8.out⟩
              case measure => simp [intOf]; omega
            · obtain rfl : t = s2.hl.len := by omega
              have q17 : wr.cell? ⟨gy, 17, none⟩ = some (.slice s2.hl.ad s2.hl.len s2.hl.cap) := by rw [Y6.cells]; rfl
              have VN := V6.row L6 (by omega) (by omega)
              have hsk : IntKind.i64.wrap ((k : Int) + 1) = (k : Int) + 1 := IntWalk.i64_in _ (by omega)
              go_wp2_with (first | (refine wpList_load_row rfl 63 _ rfl (gy) rfl _ (wc s2) (0, 0) _ (by exact Y6) Try.underlying63 rfl (by kernel_rfl) ?_) | (refine wpList_store_row rfl 63 _ _ rfl (gx) (wc s2) rfl rfl _ _ (by exact V6.X) (by kernel_rfl) (by kernel_rfl) (by kernel_rfl) ?_))
              go_roundw
              case rel => exact ⟨k + 1, y, s2, T', by omega, by go_num, by rw [HYL.out], HRR.out.inv, VN⟩
              case measure => simp [intOf]; omega
        · simp only [Bool.false_eq_true, if_false, if_true, reduceIte] at HV5 HY5 HL5 HRR HM y4
          go_wp2_with (first | (refine wpList_alloc_wz rfl rfl ?_) | (refine wpList_store_row rfl 63 _ _ rfl (w4.heap.size) (wc s2) rfl rfl _ _ (by exact Z4) (by kernel_rfl) (by kernel_rfl) (by kernel_rfl) ?_))
          have V5 := HV5.out
          have Y5 := HY5.out
          have L5 := HL5.out
          obtain ⟨T', hT'⟩ : ∃ T' : List Int, T' = T.set k (e + 1) := ⟨_, rfl⟩
          rw [← hT'] at V5 HRR HM
          obtain ⟨u5, hu5⟩ : ∃ u5, u5 = ((w4.alloc (.cells (wc wz) 63)).setRow w4.heap.size (wc s2)).setCell ⟨gt, k, none⟩ (.int .u64 (e + 1)) := ⟨_, rfl⟩
          rw [← hu5] at V5 Y5 L5 ⊢
          obtain ⟨gy, hgy'⟩ : ∃ g, g = w4.heap.size := ⟨_, rfl⟩
          rw [← hgy'] at Y5 ⊢
          clear hu5 hgy' hgy HV5 HY5 HL5 HV4 x4 y4 tc4 tf4 tl4 Y4 Z4 hT' e17 e9 hse d1 d2
          have H5 := Lib.hid (And.intro V5 (And.intro Y5 L5))
          clear V5 Y5 L5
          go_loopw [11, 12] (fun i bb wi => ∃ t : Nat, x.hl.length ≤ t ∧ t ≤ s2.hl.len ∧ i = .int .i64 t ∧ Below u5.heap.size u5 wi) (fun i _ _ => s2.hl.len - (intOf i).toNat)
          case atStart => exact ⟨x.hl.length, Nat.le_refl _, hle1, rfl, Below.refl _ _⟩
          case round =>
            obtain ⟨t, ht1, ht2, rfl, hbi⟩ := hrel
            have V6 := H5.out.1.keep hbi
            have Y6 := H5.out.2.1.keep hbi
            have L6 := H5.out.2.2.keep hbi
            have yl := Y6.lt
            by_cases htl : t < s2.hl.len
            · have hty : t < y.hl.length := by have := HYL.out; omega
              obtain ⟨bh, oh, had, hch⟩ := reads_at L6.lies.hl hty
              have hmem : y.hl[t] ∈ M := by
                have e1 := HyM.out
                have : y.hl[t] = (x.hl ++ M)[t]'(by rw [← e1]; exact hty) := by congr 1
                rw [this, List.getElem_append_right ht1]
                exact List.getElem_mem _
              obtain ⟨m0, m1, m2, m3⟩ := HM.out _ hmem
              obtain ⟨m, hm⟩ : ∃ m : Nat, y.hl[t] = (m : Int) := ⟨(y.hl[t]).toNat, by omega⟩
              rw [hm] at m0 m1 m2 m3 hch
              simp only [Int.toNat_natCast] at m2 m3
              have hmT : m < T'.length := by rw [HRR.out.inv.len]; omega
              obtain ⟨tv, htv⟩ : ∃ tv : Int, tv = T'.getD m 0 := ⟨_, rfl⟩
              rw [← htv] at m2 m3
              have tv0 : 0 ≤ tv := by rw [htv]; exact HRR.out.inv.pos m
              have hct : wr.cell? ⟨gt, m, none⟩ = some (.int .u64 tv) := by
                rw [V6.T.cells, iv_get hmT, htv, List.getD_eq_getElem?_getD, List.getElem?_eq_getElem hmT]; rfl
              have q17 : wr.cell? ⟨gy, 17, none⟩ = some (.slice (some ⟨bh, oh, none⟩) s2.hl.len s2.hl.cap) := by rw [Y6.cells, ← had]; rfl
              have q9 : wr.cell? ⟨gx, 9, none⟩ = some (.int .u64 e) := by rw [V6.X.cells]; rfl
              have hs2 : IntKind.u64.wrap (tv + 2) = tv + 2 := u64_in (by omega) (by omega)
              have c1 : decide ((m : Int) < 0) = false := by simp <;> omega
              have c2 : decide (k ≤ m) = false := by simp; omega
              have c2' : decide ((k : Int) ≤ (m : Int)) = false := by simp; omega
              have c3 : (tv == 0) = false := by simp; omega
              have c4 : decide (e < tv + 2) = false := by simp; omega
              have gl1 := V6.T.lt
              have gl2 := V6.X.lt
              have hbh : bh < wr.heap.size := block_lt_of_cell hch
              have hsum : IntKind.i64.wrap ((t : Int) + 1) = (t : Int) + 1 := IntWalk.i64_in _ (by omega)
              have HBI := Lib.hid hbi
              clear V6 Y6 L6 hmem hm m0 m2 m3 htv had hbi
              go_wp2
              refine wp_region_grown (by kernel_rfl) (by kernel_rfl) ?_
              have hg := @gcell
              repeat (go_big_quiet_step (fail))
              refine wpQuiet_nil ?_
              rintro w7 ⟨⟨_, hb7⟩, rfl⟩
              clear hg
              have HB8 := Lib.hid (HBI.out.trans (hb7.mono HBI.out.size))
              clear hct q17 q9 hch hb7
              go_wp2
              go_roundw
              case rel => exact ⟨t + 1, by omega, by omega, by go_num, HB8.out⟩
              case measure => simp [intOf]; omega
            · obtain rfl : t = s2.hl.len := by omega
              have q17 : wr.cell? ⟨gy, 17, none⟩ = some (.slice s2.hl.ad s2.hl.len s2.hl.cap) := by rw [Y6.cells]; rfl
              have VN := V6.row L6 (by omega) (by omega)
              have hsk : IntKind.i64.wrap ((k : Int) + 1) = (k : Int) + 1 := IntWalk.i64_in _ (by omega)
              go_wp2_with (first | (refine wpList_load_row rfl 63 _ rfl (gy) rfl _ (wc s2) (0, 0) _ (by exact Y6) Try.underlying63 rfl (by kernel_rfl) ?_) | (refine wpList_store_row rfl 63 _ _ rfl (gx) (wc s2) rfl rfl _ _ (by exact V6.X) (by kernel_rfl) (by kernel_rfl) (by kernel_rfl) ?_))
              go_roundw
              case rel => exact ⟨k + 1, y, s2, T', by omega, by go_num, by rw [HYL.out], HRR.out.inv, VN⟩
              case measure => simp [intOf]; omega

    · -- the end
      obtain rfl : L.length = k := by omega
      obtain ⟨ep, hep⟩ : ∃ ep, ep = x.p.ep := ⟨_, rfl⟩
      have e9 := HE9.out s
      rw [V.L.p, ← hep] at e9
      have he0 := I.ep0
      have he1 := I.ep1
      rw [← hep] at he0 he1
      have hs3 : IntKind.u64.wrap (ep + 3) = ep + 3 := u64_in (by omega) (by omega)
      have hq := I.all
      have hfx : Few 200 x := ⟨by simp [I.rk], by omega, by omega, by omega, by omega, by simp [I.rd]⟩
      have hr := bagRipe s x hfx (ep + 3) (by omega) wr V.L
      have HRP := Lib.hid hr
      have hra := ripe_all I
      rw [← hep] at hra
      have hrk : (ripeS x (ep + 3)).rk = [] := I.rk
      have hrd : (ripeS x (ep + 3)).rd = [] := I.rd
      obtain ⟨xr, hxr⟩ : ∃ xr, xr = ripeS x (ep + 3) := ⟨_, rfl⟩
      rw [← hxr] at hra hrk hrd HRP
      obtain ⟨r0, r1, r2, r3, r4⟩ := hra
      have HCT := Lib.hid (fun v => (r3 v).trans (I.one v))
      have HTL := Lib.hid I.len
      have xx := V.X.cells
      have xl := V.X.lt
      have tl := V.T.lt
      clear hr hep hq hfx hxr r3 I
      go_wp2_with (refine wpList_load_row rfl 63 _ rfl (gx) rfl _ (wc s) (0, 0) _ (by exact V.X) Try.underlying63 rfl (by kernel_rfl) ?_)
      refine HRP.out.mono ?_
      rintro r w4 ⟨s3, rfl, L3, hb4⟩
      have V4 := V.keep hb4
      have VN := V4.row L3 xl tl
      clear V hb4 HRP xx e9 hs3
      have hfr : Few 900 xr := ⟨by simp [hrk], by simp [r0], by simp [r1], by simp [r2], by omega, by simp [hrd]⟩
      have hcn : Calls Try.prog 42 #[wv s3] (w4.setRow gx (wc s3)) fun e w' => e = .returned (.int .i64 0) ∧ Below (w4.setRow gx (wc s3)).heap.size (w4.setRow gx (wc s3)) w' := by
        have := bagCount s3 xr hfr _ VN.L
        rw [r0, r1, r2] at this
        exact this
      have HCN := Lib.hid hcn
      clear hcn
      go_wp2_with (first | (refine wpList_store_row rfl 63 _ _ rfl (gx) (wc s3) rfl rfl _ _ (by exact V4.X) (by kernel_rfl) (by kernel_rfl) (by kernel_rfl) ?_) | (refine wpList_load_row rfl 63 _ rfl (gx) rfl _ (wc s3) (0, 0) _ (by exact VN.X) Try.underlying63 rfl (by kernel_rfl) ?_))
      refine HCN.out.mono ?_
      rintro r w5 ⟨rfl, hb5⟩
      have V5 := VN.keep hb5
      have hyl := reads_len V5.L.hl
      have HYL := Lib.hid hyl
      have hlen : s3.hl.len ≤ L.length := by omega
      have B6 : Bk (w5.alloc (.cells (bv (List.replicate L.length false)) 4)) w5.heap.size (bv (List.replicate L.length false)) 4 := Bk.new _ _ _
      have b6 : Below w5.heap.size w5 (w5.alloc (.cells (bv (List.replicate L.length false)) 4)) := (Below.refl _ _).alloc (Nat.le_refl _) _
      clear HCN V4 VN L3 hb5 hyl hfr hrk hrd
      go_wp2_with (first | (refine make_bools Try.underlying75 infoB (by decide) rfl _ _ rfl L.length rfl rfl (by omega) ?_))
      obtain ⟨u6, hu6⟩ : ∃ u, u = w5.alloc (.cells (bv (List.replicate L.length false)) 4) := ⟨_, rfl⟩
      rw [← hu6] at B6 b6 ⊢
      obtain ⟨gs, hgs⟩ : ∃ g, g = w5.heap.size := ⟨_, rfl⟩
      rw [← hgs] at B6 ⊢
      have hgs0 : w5.heap.size ≤ gs := by omega
      clear hu6 hgs
      have H6 := Lib.hid (And.intro B6 b6)
      clear B6 b6
      obtain ⟨wo, rfl⟩ : ∃ wo : World, wo = wr := ⟨_, rfl⟩
      go_loopw [14, 15] (fun i bb wi => ∃ (t : Nat) (S : List Bool), t ≤ s3.hl.len ∧ i = .int .i64 t ∧ S.length = L.length ∧ Bk wi gs (bv S) 4 ∧ Below w5.heap.size w5 wi ∧ ∀ m, m < L.length → S.getD m false = decide ((m : Int) ∈ xr.hl.take t)) (fun i _ _ => s3.hl.len - (intOf i).toNat)
      case atStart => exact ⟨0, List.replicate L.length false, Nat.zero_le _, rfl, by simp, H6.out.1, H6.out.2, fun m hm => by simp [List.getD_eq_getElem?_getD, List.getElem?_replicate, hm]⟩
      case round =>
        obtain ⟨t, S, ht, rfl, hS, BS, hbi, hseen⟩ := hrel
        have V6 := V5.keep hbi
        clear H6
        have HS := Lib.hid hseen
        have hSl := Lib.hid hS
        clear hseen
        by_cases htl : t < s3.hl.len
        · have hty : t < xr.hl.length := by have := HYL.out; omega
          obtain ⟨bh, oh, had, hch⟩ := reads_at V6.L.hl hty
          have hcv := HCT.out xr.hl[t]
          have hmem := count_pos_of_mem (List.getElem_mem hty)
          have hone : xr.hl.count xr.hl[t] ≤ 1 := by rw [hcv]; split <;> omega
          have hna := not_ahead hty hone
          rw [hcv] at hmem
          split at hmem
          rotate_left
          · omega
          rename_i hpos
          obtain ⟨m0, m1, m2⟩ := hpos
          obtain ⟨m, hm⟩ : ∃ m : Nat, xr.hl[t] = (m : Int) := ⟨(xr.hl[t]).toNat, by omega⟩
          rw [hm] at m0 m1 m2 hch hna
          simp only [Int.toNat_natCast] at m2
          have hmn : m < L.length := by omega
          have hmT : m < T.length := by have := HTL.out; omega
          have hmS : m < S.length := by omega
          have hsf : S.getD m false = false := by rw [HS.out m hmn]; simpa using hna
          obtain ⟨tv, htv⟩ : ∃ tv : Int, tv = T.getD m 0 := ⟨_, rfl⟩
          rw [← htv] at m2
          have hct : wr.cell? ⟨gt, m, none⟩ = some (.int .u64 tv) := by
            rw [V6.T.cells, iv_get hmT, htv, List.getD_eq_getElem?_getD, List.getElem?_eq_getElem hmT]; rfl
          have hcs : wr.cell? ⟨gs, m, none⟩ = some (.bool false) := by
            rw [BS.cells, bv_get hmS, ← hsf, List.getD_eq_getElem?_getD, List.getElem?_eq_getElem hmS]; rfl
          have hfs : wr.frozen? ⟨gs, m, none⟩ = false := BS.frozen m
          have q17 : wr.cell? ⟨gx, 17, none⟩ = some (.slice (some ⟨bh, oh, none⟩) s3.hl.len s3.hl.cap) := by rw [V6.X.cells, ← had]; rfl
          have c1 : decide ((m : Int) < 0) = false := by simp <;> omega
          have c2 : decide (L.length ≤ m) = false := by simp; omega
          have c3 : (tv == 0) = false := by simp; omega
          have hsum : IntKind.i64.wrap ((t : Int) + 1) = (t : Int) + 1 := IntWalk.i64_in _ (by omega)
          have hts : xr.hl.take (t + 1) = xr.hl.take t ++ [(m : Int)] := by rw [List.take_succ_eq_append_getElem hty, hm]
          have HB7 : RowKit.Hid (Below w5.heap.size w5 (wr.setCell ⟨gs, m, none⟩ (.bool true))) := Lib.hid (hbi.setCell (p := ⟨gs, m, none⟩) hgs0 _)
          have HBS := Lib.hid (show Bk (wr.setCell ⟨gs, m, none⟩ (.bool true)) gs (bv (S.set m true)) 4 from by have := BS.setCell m (.bool true); rwa [bv_set] at this)
          have HNS : RowKit.Hid (∀ m', m' < L.length → (S.set m true).getD m' false = decide ((m' : Int) ∈ xr.hl.take (t + 1))) := Lib.hid (fun m' hm' => by
            have ho := HS.out m' hm'
            rw [hts]
            rw [List.getD_eq_getElem?_getD] at ho ⊢
            rw [List.getElem?_set]
            by_cases hmm : m = m'
            · subst hmm; simp [hmS]
            · rw [if_neg hmm, ho]
              have : ¬ (m' : Int) = (m : Int) := by omega
              simp [this])
          clear V6 had hcv hone hna hm m0 m1 m2 htv hsf hts hbi BS hS
          go_wp2
          go_roundw
          case rel => exact ⟨t + 1, S.set m true, by omega, by go_num, by have := hSl.out; simpa using this, HBS.out, HB7.out, HNS.out⟩
          case measure => simp [intOf]; omega
        · obtain rfl : t = s3.hl.len := by omega
          have q17 : wr.cell? ⟨gx, 17, none⟩ = some (.slice s3.hl.ad s3.hl.len s3.hl.cap) := by rw [V6.X.cells]; rfl
          have HAll : RowKit.Hid (∀ m, m < L.length → S.getD m false = (T.getD m 0 != 0)) := Lib.hid (fun m hm => by
            have h1 := HS.out m hm
            have h2 := HCT.out (m : Int)
            have h3 := HYL.out
            rw [h3, List.take_length] at h1
            rw [h1]
            simp only [Int.toNat_natCast] at h2
            by_cases ht0 : T.getD m 0 = 0
            · have hc0 : xr.hl.count (m : Int) = 0 := by rw [h2, if_neg (by omega)]
              have : ¬ (m : Int) ∈ xr.hl := List.count_eq_zero.1 hc0
              simp only [ht0, this]; decide
            · have hc1 : xr.hl.count (m : Int) = 1 := by rw [h2, if_pos ⟨by omega, by omega, ht0⟩]
              have : (m : Int) ∈ xr.hl := List.count_pos_iff.1 (by omega)
              simp only [this, decide_true]
              simpa using ht0)
          obtain ⟨wp, rfl⟩ : ∃ wp : World, wp = wr := ⟨_, rfl⟩
          have HBW := Lib.hid (V6.below)
          have HV6 := Lib.hid (And.intro V6.T BS)
          go_wp2_with fail
          clear q17 V6 BS V5 hbi hS
          go_loopw [16] (fun i wi => ∃ (t : Nat), t ≤ L.length ∧ i = .int .i64 t ∧ Below wp.heap.size wp wi) (fun i _ => L.length - (intOf i).toNat)
          case atStart => exact ⟨0, Nat.zero_le _, rfl, Below.refl _ _⟩
          case round =>
            obtain ⟨t, htn, rfl, hbj⟩ := hrel
            by_cases htl : t < L.length
            · have TT := HV6.out.1.keep hbj
              have SS := HV6.out.2.keep hbj
              have hmT : t < T.length := by have := HTL.out; omega
              have hmS : t < S.length := by have := hSl.out; omega
              obtain ⟨tv, htv⟩ : ∃ tv : Int, tv = T.getD t 0 := ⟨_, rfl⟩
              obtain ⟨sv, hsv⟩ : ∃ sv : Bool, sv = S.getD t false := ⟨_, rfl⟩
              have hct := TT.cells t
              rw [iv_get hmT, show T[t] = tv by rw [htv, List.getD_eq_getElem?_getD, List.getElem?_eq_getElem hmT]; rfl] at hct
              have hcs := SS.cells t
              rw [bv_get hmS, show S[t] = sv by rw [hsv, List.getD_eq_getElem?_getD, List.getElem?_eq_getElem hmS]; rfl] at hcs
              have hc1 := HAll.out t htl
              rw [← htv, ← hsv] at hc1
              have hc := hc1.symm
              clear hc1
              have hcc : (sv != sv) = false := by simp
              have l1 := TT.lt
              have l2 := SS.lt
              have hsum : IntKind.i64.wrap ((t : Int) + 1) = (t : Int) + 1 := IntWalk.i64_in _ (by omega)
              have HBJ := Lib.hid hbj
              clear TT SS htv hsv hbj
              go_wp2
              refine wp_region_grown (by kernel_rfl) (by kernel_rfl) ?_
              have hg := @gcell
              repeat (go_big_quiet_step (fail))
              refine wpQuiet_nil ?_
              rintro w7 ⟨⟨_, hb7⟩, rfl⟩
              clear hg
              have HB8 := Lib.hid (HBJ.out.trans (hb7.mono HBJ.out.size))
              clear hct hcs hc hb7
              go_wp2
              go_roundw
              case rel => exact ⟨t + 1, by omega, by go_num, HB8.out⟩
              case measure => simp [intOf]; omega
            · obtain rfl : L.length = t := by omega
              have hfin := HBW.out.trans (hbj.mono HBW.out.size)
              clear hbj
              go_wp2
              go_ret
              exact ⟨rfl, hfin⟩

set_option maxRecDepth 100000 in
set_option maxHeartbeats 40000000 in
theorem bagWaits_zero (c : Cfg) (ad : Option Addr) (nq cap : Nat) (h0 : nq = 0) (w : World) :
    Calls Try.prog 6 #[cv c, .slice ad nq cap] w fun r w' => r = .returned (.bool true) ∧ Below w.heap.size w w' := by
  have HZ := Lib.hid h0
  have hn : nq ≤ 40 := by omega
  clear h0
  have hbz := build_wE
  have E9 : ∀ s : Wk, (wc s)[9]? = some (.int .u64 s.p.ep) := fun _ => rfl
  have E17 : ∀ s : Wk, (wc s)[17]? = some (.slice s.hl.ad s.hl.len s.hl.cap) := fun _ => rfl
  have HE9 := Lib.hid E9
  have HE17 := Lib.hid E17
  clear E9 E17
  go_enter Try.func6, Try.ntmps6
  go_wp2_with fail
  refine (awake5 _).mono ?_
  rintro r w1 ⟨rfl, hb1⟩
  have C1 := (Bk.new w (ccW c) 24).keep hb1
  have hw1 : Below w.heap.size w w1 := ((Below.refl _ _).alloc (Nat.le_refl _) _).trans (hb1.mono (by simp))
  have Z1 := Bk.new w1 (wc wz) 63
  have hgx : w.heap.size ≤ w1.heap.size := hw1.size
  have B2 := boxed_below w1 wE
  have M2 : Below ((w1.alloc (.cells (wc wz) 63)).setRow w1.heap.size (wc wE)).heap.size ((w1.alloc (.cells (wc wz) 63)).setRow w1.heap.size (wc wE)) (((w1.alloc (.cells (wc wz) 63)).setRow w1.heap.size (wc wE)).alloc (.cells (iv .u64 (List.replicate nq 0)) 22)) := (Below.refl _ _).alloc (Nat.le_refl _) _
  have V0 : Wt w c w1.heap.size (w1.heap.size + 1) wE xE0 (List.replicate nq 0) (((w1.alloc (.cells (wc wz) 63)).setRow w1.heap.size (wc wE)).alloc (.cells (iv .u64 (List.replicate nq 0)) 22)) :=
    ⟨(C1.keep B2).keep M2, (boxed_bk w1 wE).keep M2, ⟨rfl, Reads.nil _ _, Reads.nil _ _, Reads.nil _ _, Reads.nil _ _, Reads.nil _ _, Reads.nil _ _⟩, by have := Bk.new ((w1.alloc (.cells (wc wz) 63)).setRow w1.heap.size (wc wE)) (iv .u64 (List.replicate nq 0)) 22; simpa using this, hgx, by omega, ⟨.inl rfl, .inl rfl, .inl rfl, .inl rfl, .inl rfl, .inl rfl⟩, ⟨.inl rfl, .inl rfl, .inl rfl, .inl rfl, .inl rfl, .inl rfl⟩, (hw1.trans (B2.mono hw1.size)).trans (M2.mono (by have := (hw1.trans (B2.mono hw1.size)).size; exact this))⟩
  go_wp2_with (first | (refine wpList_alloc_wz rfl rfl ?_) | (refine wpList_store_row rfl 63 _ _ rfl (w1.heap.size) (wc wE) rfl rfl _ _ (by exact Z1) (by kernel_rfl) (by kernel_rfl) (by kernel_rfl) ?_) | (refine make_row Try.underlying25 infoU (by decide) rfl _ _ rfl nq rfl rfl (by omega) ?_))
  obtain ⟨u0, hu0⟩ : ∃ u, u = ((w1.alloc (.cells (wc wz) 63)).setRow w1.heap.size (wc wE)).alloc (.cells (iv .u64 (List.replicate nq 0)) 22) := ⟨_, rfl⟩
  rw [← hu0] at V0 ⊢
  obtain ⟨gx, hgx'⟩ : ∃ g, g = w1.heap.size := ⟨_, rfl⟩
  rw [← hgx'] at V0 ⊢
  obtain ⟨gt, hgt'⟩ : ∃ g, g = gx + 1 := ⟨_, rfl⟩
  rw [← hgt'] at V0 ⊢
  clear hu0 hgx' hgt' Z1 C1 hw1 hbz hb1 B2 M2 hgx
  have HV := Lib.hid V0
  clear V0
  go_loopw [7, 8] (fun hh i wr => ∃ (k : Nat) (x : St) (s : Wk) (T : List Int), k ≤ nq ∧ i = .int .i64 k ∧ hh = .int .i64 (x.hl.length : Int) ∧ WInv nq k x T ∧ Wt w c gx gt s x T wr) (fun _ i _ => nq - (intOf i).toNat)
  case atStart => exact ⟨0, xE0, wE, _, Nat.zero_le _, rfl, rfl, winv_start _, HV.out⟩
  case round =>
    obtain ⟨k, x, s, T, hk, rfl, rfl, I, V⟩ := hrel
    clear HV
    by_cases hlt : k < nq
    · -- a round
      exact absurd hlt (by have := HZ.out; omega)
    · -- the end
      obtain rfl : nq = k := by omega
      obtain ⟨ep, hep⟩ : ∃ ep, ep = x.p.ep := ⟨_, rfl⟩
      have e9 := HE9.out s
      rw [V.L.p, ← hep] at e9
      have he0 := I.ep0
      have he1 := I.ep1
      rw [← hep] at he0 he1
      have hs3 : IntKind.u64.wrap (ep + 3) = ep + 3 := u64_in (by omega) (by omega)
      have hq := I.all
      have hfx : Few 200 x := ⟨by simp [I.rk], by omega, by omega, by omega, by omega, by simp [I.rd]⟩
      have hr := bagRipe s x hfx (ep + 3) (by omega) wr V.L
      have HRP := Lib.hid hr
      have hra := ripe_all I
      rw [← hep] at hra
      have hrk : (ripeS x (ep + 3)).rk = [] := I.rk
      have hrd : (ripeS x (ep + 3)).rd = [] := I.rd
      obtain ⟨xr, hxr⟩ : ∃ xr, xr = ripeS x (ep + 3) := ⟨_, rfl⟩
      rw [← hxr] at hra hrk hrd HRP
      obtain ⟨r0, r1, r2, r3, r4⟩ := hra
      have HCT := Lib.hid (fun v => (r3 v).trans (I.one v))
      have HTL := Lib.hid I.len
      have xx := V.X.cells
      have xl := V.X.lt
      have tl := V.T.lt
      clear hr hep hq hfx hxr r3 I
      go_wp2_with (refine wpList_load_row rfl 63 _ rfl (gx) rfl _ (wc s) (0, 0) _ (by exact V.X) Try.underlying63 rfl (by kernel_rfl) ?_)
      refine HRP.out.mono ?_
      rintro r w4 ⟨s3, rfl, L3, hb4⟩
      have V4 := V.keep hb4
      have VN := V4.row L3 xl tl
      clear V hb4 HRP xx e9 hs3
      have hfr : Few 900 xr := ⟨by simp [hrk], by simp [r0], by simp [r1], by simp [r2], by omega, by simp [hrd]⟩
      have hcn : Calls Try.prog 42 #[wv s3] (w4.setRow gx (wc s3)) fun e w' => e = .returned (.int .i64 0) ∧ Below (w4.setRow gx (wc s3)).heap.size (w4.setRow gx (wc s3)) w' := by
        have := bagCount s3 xr hfr _ VN.L
        rw [r0, r1, r2] at this
        exact this
      have HCN := Lib.hid hcn
      clear hcn
      go_wp2_with (first | (refine wpList_store_row rfl 63 _ _ rfl (gx) (wc s3) rfl rfl _ _ (by exact V4.X) (by kernel_rfl) (by kernel_rfl) (by kernel_rfl) ?_) | (refine wpList_load_row rfl 63 _ rfl (gx) rfl _ (wc s3) (0, 0) _ (by exact VN.X) Try.underlying63 rfl (by kernel_rfl) ?_))
      refine HCN.out.mono ?_
      rintro r w5 ⟨rfl, hb5⟩
      have V5 := VN.keep hb5
      have hyl := reads_len V5.L.hl
      have HYL := Lib.hid hyl
      have hlen : s3.hl.len ≤ nq := by omega
      have B6 : Bk (w5.alloc (.cells (bv (List.replicate nq false)) 4)) w5.heap.size (bv (List.replicate nq false)) 4 := Bk.new _ _ _
      have b6 : Below w5.heap.size w5 (w5.alloc (.cells (bv (List.replicate nq false)) 4)) := (Below.refl _ _).alloc (Nat.le_refl _) _
      clear HCN V4 VN L3 hb5 hyl hfr hrk hrd
      go_wp2_with (first | (refine make_bools Try.underlying75 infoB (by decide) rfl _ _ rfl nq rfl rfl (by omega) ?_))
      obtain ⟨u6, hu6⟩ : ∃ u, u = w5.alloc (.cells (bv (List.replicate nq false)) 4) := ⟨_, rfl⟩
      rw [← hu6] at B6 b6 ⊢
      obtain ⟨gs, hgs⟩ : ∃ g, g = w5.heap.size := ⟨_, rfl⟩
      rw [← hgs] at B6 ⊢
      have hgs0 : w5.heap.size ≤ gs := by omega
      clear hu6 hgs
      have H6 := Lib.hid (And.intro B6 b6)
      clear B6 b6
      obtain ⟨wo, rfl⟩ : ∃ wo : World, wo = wr := ⟨_, rfl⟩
      go_loopw [14, 15] (fun i bb wi => ∃ (t : Nat) (S : List Bool), t ≤ s3.hl.len ∧ i = .int .i64 t ∧ S.length = nq ∧ Bk wi gs (bv S) 4 ∧ Below w5.heap.size w5 wi ∧ ∀ m, m < nq → S.getD m false = decide ((m : Int) ∈ xr.hl.take t)) (fun i _ _ => s3.hl.len - (intOf i).toNat)
      case atStart => exact ⟨0, List.replicate nq false, Nat.zero_le _, rfl, by simp, H6.out.1, H6.out.2, fun m hm => by simp [List.getD_eq_getElem?_getD, List.getElem?_replicate, hm]⟩
      case round =>
        obtain ⟨t, S, ht, rfl, hS, BS, hbi, hseen⟩ := hrel
        have V6 := V5.keep hbi
        clear H6
        have HS := Lib.hid hseen
        have hSl := Lib.hid hS
        clear hseen
        by_cases htl : t < s3.hl.len
        · have hty : t < xr.hl.length := by have := HYL.out; omega
          obtain ⟨bh, oh, had, hch⟩ := reads_at V6.L.hl hty
          have hcv := HCT.out xr.hl[t]
          have hmem := count_pos_of_mem (List.getElem_mem hty)
          have hone : xr.hl.count xr.hl[t] ≤ 1 := by rw [hcv]; split <;> omega
          have hna := not_ahead hty hone
          rw [hcv] at hmem
          split at hmem
          rotate_left
          · omega
          rename_i hpos
          obtain ⟨m0, m1, m2⟩ := hpos
          obtain ⟨m, hm⟩ : ∃ m : Nat, xr.hl[t] = (m : Int) := ⟨(xr.hl[t]).toNat, by omega⟩
          rw [hm] at m0 m1 m2 hch hna
          simp only [Int.toNat_natCast] at m2
          have hmn : m < nq := by omega
          have hmT : m < T.length := by have := HTL.out; omega
          have hmS : m < S.length := by omega
          have hsf : S.getD m false = false := by rw [HS.out m hmn]; simpa using hna
          obtain ⟨tv, htv⟩ : ∃ tv : Int, tv = T.getD m 0 := ⟨_, rfl⟩
          rw [← htv] at m2
          have hct : wr.cell? ⟨gt, m, none⟩ = some (.int .u64 tv) := by
            rw [V6.T.cells, iv_get hmT, htv, List.getD_eq_getElem?_getD, List.getElem?_eq_getElem hmT]; rfl
          have hcs : wr.cell? ⟨gs, m, none⟩ = some (.bool false) := by
            rw [BS.cells, bv_get hmS, ← hsf, List.getD_eq_getElem?_getD, List.getElem?_eq_getElem hmS]; rfl
          have hfs : wr.frozen? ⟨gs, m, none⟩ = false := BS.frozen m
          have q17 : wr.cell? ⟨gx, 17, none⟩ = some (.slice (some ⟨bh, oh, none⟩) s3.hl.len s3.hl.cap) := by rw [V6.X.cells, ← had]; rfl
          have c1 : decide ((m : Int) < 0) = false := by simp <;> omega
          have c2 : decide (nq ≤ m) = false := by simp; omega
          have c3 : (tv == 0) = false := by simp; omega
          have hsum : IntKind.i64.wrap ((t : Int) + 1) = (t : Int) + 1 := IntWalk.i64_in _ (by omega)
          have hts : xr.hl.take (t + 1) = xr.hl.take t ++ [(m : Int)] := by rw [List.take_succ_eq_append_getElem hty, hm]
          have HB7 : RowKit.Hid (Below w5.heap.size w5 (wr.setCell ⟨gs, m, none⟩ (.bool true))) := Lib.hid (hbi.setCell (p := ⟨gs, m, none⟩) hgs0 _)
          have HBS := Lib.hid (show Bk (wr.setCell ⟨gs, m, none⟩ (.bool true)) gs (bv (S.set m true)) 4 from by have := BS.setCell m (.bool true); rwa [bv_set] at this)
          have HNS : RowKit.Hid (∀ m', m' < nq → (S.set m true).getD m' false = decide ((m' : Int) ∈ xr.hl.take (t + 1))) := Lib.hid (fun m' hm' => by
            have ho := HS.out m' hm'
            rw [hts]
            rw [List.getD_eq_getElem?_getD] at ho ⊢
            rw [List.getElem?_set]
            by_cases hmm : m = m'
            · subst hmm; simp [hmS]
            · rw [if_neg hmm, ho]
              have : ¬ (m' : Int) = (m : Int) := by omega
              simp [this])
          clear V6 had hcv hone hna hm m0 m1 m2 htv hsf hts hbi BS hS
          go_wp2
          go_roundw
          case rel => exact ⟨t + 1, S.set m true, by omega, by go_num, by have := hSl.out; simpa using this, HBS.out, HB7.out, HNS.out⟩
          case measure => simp [intOf]; omega
        · obtain rfl : t = s3.hl.len := by omega
          have q17 : wr.cell? ⟨gx, 17, none⟩ = some (.slice s3.hl.ad s3.hl.len s3.hl.cap) := by rw [V6.X.cells]; rfl
          have HAll : RowKit.Hid (∀ m, m < nq → S.getD m false = (T.getD m 0 != 0)) := Lib.hid (fun m hm => by
            have h1 := HS.out m hm
            have h2 := HCT.out (m : Int)
            have h3 := HYL.out
            rw [h3, List.take_length] at h1
            rw [h1]
            simp only [Int.toNat_natCast] at h2
            by_cases ht0 : T.getD m 0 = 0
            · have hc0 : xr.hl.count (m : Int) = 0 := by rw [h2, if_neg (by omega)]
              have : ¬ (m : Int) ∈ xr.hl := List.count_eq_zero.1 hc0
              simp only [ht0, this]; decide
            · have hc1 : xr.hl.count (m : Int) = 1 := by rw [h2, if_pos ⟨by omega, by omega, ht0⟩]
              have : (m : Int) ∈ xr.hl := List.count_pos_iff.1 (by omega)
              simp only [this, decide_true]
              simpa using ht0)
          obtain ⟨wp, rfl⟩ : ∃ wp : World, wp = wr := ⟨_, rfl⟩
          have HBW := Lib.hid (V6.below)
          have HV6 := Lib.hid (And.intro V6.T BS)
          go_wp2_with fail
          clear q17 V6 BS V5 hbi hS
          go_loopw [16] (fun i wi => ∃ (t : Nat), t ≤ nq ∧ i = .int .i64 t ∧ Below wp.heap.size wp wi) (fun i _ => nq - (intOf i).toNat)
          case atStart => exact ⟨0, Nat.zero_le _, rfl, Below.refl _ _⟩
          case round =>
            obtain ⟨t, htn, rfl, hbj⟩ := hrel
            by_cases htl : t < nq
            · have TT := HV6.out.1.keep hbj
              have SS := HV6.out.2.keep hbj
              have hmT : t < T.length := by have := HTL.out; omega
              have hmS : t < S.length := by have := hSl.out; omega
              obtain ⟨tv, htv⟩ : ∃ tv : Int, tv = T.getD t 0 := ⟨_, rfl⟩
              obtain ⟨sv, hsv⟩ : ∃ sv : Bool, sv = S.getD t false := ⟨_, rfl⟩
              have hct := TT.cells t
              rw [iv_get hmT, show T[t] = tv by rw [htv, List.getD_eq_getElem?_getD, List.getElem?_eq_getElem hmT]; rfl] at hct
              have hcs := SS.cells t
              rw [bv_get hmS, show S[t] = sv by rw [hsv, List.getD_eq_getElem?_getD, List.getElem?_eq_getElem hmS]; rfl] at hcs
              have hc1 := HAll.out t htl
              rw [← htv, ← hsv] at hc1
              have hc := hc1.symm
              clear hc1
              have hcc : (sv != sv) = false := by simp
              have l1 := TT.lt
              have l2 := SS.lt
              have hsum : IntKind.i64.wrap ((t : Int) + 1) = (t : Int) + 1 := IntWalk.i64_in _ (by omega)
              have HBJ := Lib.hid hbj
              clear TT SS htv hsv hbj
              go_wp2
              refine wp_region_grown (by kernel_rfl) (by kernel_rfl) ?_
              have hg := @gcell
              repeat (go_big_quiet_step (fail))
              refine wpQuiet_nil ?_
              rintro w7 ⟨⟨_, hb7⟩, rfl⟩
              clear hg
              have HB8 := Lib.hid (HBJ.out.trans (hb7.mono HBJ.out.size))
              clear hct hcs hc hb7
              go_wp2
              go_roundw
              case rel => exact ⟨t + 1, by omega, by go_num, HB8.out⟩
              case measure => simp [intOf]; omega
            · obtain rfl : nq = t := by omega
              have hfin := HBW.out.trans (hbj.mono HBW.out.size)
              clear hbj
              go_wp2
              go_ret
              exact ⟨rfl, hfin⟩

theorem bagWaits (c : Cfg) (v : Sl) (L : List Int) (w : World) (h : Reads w .u8 v.v L) (hf : Shp.Fit .u8 L) :
    Calls Try.prog 6 #[cv c, v.v] w fun r w' => r = .returned (.bool true) ∧ Below w.heap.size w w' := by
  obtain ⟨ad, n, cap⟩ := v
  have hn := reads_len h
  have hm := reads_le h
  simp only at hn hm
  subst hn
  by_cases hl : L.length ≤ 40
  · by_cases h0 : L.length = 0
    · exact bagWaits_zero c ad L.length cap h0 w
    · obtain ⟨ad', cap', he, h1, h2, h3⟩ := h
      simp only [Sl.v, Value.slice.injEq] at he
      obtain ⟨rfl, _, rfl⟩ := he
      rcases h3 with rfl | ⟨b, off, rfl, hb, hc⟩
      · simp at h0
      · exact bagWaits_pos c b off cap L hl w hc hb (fun k hk => Shp.wf_u8 (hf _ (List.getElem_mem hk)))
  · exact bagWaits_long c ad L.length cap (by omega) (by unfold maxLen at hm; omega) w
end Go.Proofs.Ytkplkhcboobfaaa.Wo
