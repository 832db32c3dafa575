/- The reference's List (made by genlist.py). -/
import Derived.Test.YtgpdkagmacpghaaListNum
import Derived.Test.YtgpdkagmacpghaaInsideRef
import Derived.Test.YtgpdkagmacpghaaRefStep
namespace Go.Proofs.Ytgpdkagmacpghaa.Me
open Go Go.RowKit Go.Proofs.Ytgpdkagmacpghaa.Gro Go.Proofs.Ytgpdkagmacpghaa.Own Go.Proofs.Ytgpdkagmacpghaa.Wd Go.Proofs.Ytgpdkagmacpghaa.Ap Go.Proofs.Ytgpdkagmacpghaa.Pl Go.Proofs.Ytgpdkagmacpghaa.Wo
set_option linter.unusedVariables false
set_option linter.unusedSimpArgs false
set_option maxRecDepth 10000 in
set_option maxHeartbeats 8000000 in
theorem lsR_bad (c : Cfg) (hf : c.Wf) (ad : Option Addr) (n cap : Nat) (e : Bool) (h : chk c ≠ 0) (w : World) : Calls Try.prog 9 #[cv c, .slice ad n cap, .bool e] w (fun en w' => en = .returned (.tuple #[.slice none 0 0, .bool false]) ∧ Below w.heap.size w w') := by
  have C0 := Bk.new w (ccM c) 24
  have hw0 : Below w.heap.size w (w.alloc (.cells (ccM c) 24)) := (Below.refl _ _).alloc (Nat.le_refl _) _
  have HC0 := Lib.hid (refCheck c hf)
  have te : (chk c != 0) = true := by simp [h]
  clear h
  go_enter Try.func9, Try.ntmps9
  go_wp2_with (first | (refine wpList_load_row rfl 24 _ rfl w.heap.size rfl _ (ccM c) (0, 0) _ (by exact C0) Try.underlying24 rfl (by kernel_rfl) ?_) | (refine wpList_load_row_w rfl 24 _ rfl w.heap.size rfl _ (ccM c) (0, 0) _ (by exact C0) Try.underlying24 rfl (by kernel_rfl) ?_))
  refine (HC0.out _).mono ?_
  rintro en w1 ⟨rfl, hb1⟩
  have hw1 := hw0.trans (hb1.mono hw0.size)
  have C1 := C0.keep hb1
  clear hw0 hb1 C0
  go_wp2
  go_ret2
  exact ⟨rfl, hw1⟩
set_option maxRecDepth 10000 in
set_option maxHeartbeats 8000000 in
theorem lsR_len (c : Cfg) (hf : c.Wf) (ad : Option Addr) (n cap : Nat) (e : Bool) (h : chk c = 0) (hs : (n : Int) ≠ siz c) (w : World) : Calls Try.prog 9 #[cv c, .slice ad n cap, .bool e] w (fun en w' => en = .returned (.tuple #[.slice none 0 0, .bool false]) ∧ Below w.heap.size w w') := by
  have C0 := Bk.new w (ccM c) 24
  have hw0 : Below w.heap.size w (w.alloc (.cells (ccM c) 24)) := (Below.refl _ _).alloc (Nat.le_refl _) _
  have HC0 := Lib.hid (fun w => h ▸ refCheck c hf w)
  have HAL := Lib.hid (refAll c (chk_ok.1 h))
  have HSL := Lib.hid (spots_len (chk_ok.1 h))
  have HS := Lib.hid hs
  clear h hs
  go_enter Try.func9, Try.ntmps9
  go_wp2_with (first | (refine wpList_load_row rfl 24 _ rfl w.heap.size rfl _ (ccM c) (0, 0) _ (by exact C0) Try.underlying24 rfl (by kernel_rfl) ?_) | (refine wpList_load_row_w rfl 24 _ rfl w.heap.size rfl _ (ccM c) (0, 0) _ (by exact C0) Try.underlying24 rfl (by kernel_rfl) ?_))
  refine (HC0.out _).mono ?_
  rintro en w1 ⟨rfl, hb1⟩
  have hw1 := hw0.trans (hb1.mono hw0.size)
  have C1 := C0.keep hb1
  clear hw0 hb1 C0
  go_wp2_with (first | (refine wpList_load_row rfl 24 _ rfl w.heap.size rfl _ (ccM c) (0, 0) _ (by exact C1) Try.underlying24 rfl (by kernel_rfl) ?_) | (refine wpList_load_row_w rfl 24 _ rfl w.heap.size rfl _ (ccM c) (0, 0) _ (by exact C1) Try.underlying24 rfl (by kernel_rfl) ?_))
  refine (HAL.out _).mono ?_
  rintro en w2 ⟨z, rfl, hz, hb2⟩
  obtain ⟨y0, rfl, hyl⟩ := owns_slI hz
  have hw2 := hw1.trans (hb2.mono hw1.size)
  have C2 := C1.keep hb2
  have hne : ((n : Int) != (y0.len : Int)) = true := by have := HS.out; have := HSL.out; simp; omega
  clear hz hb2 C1 hw1 hyl
  go_wp2
  go_ret2
  exact ⟨rfl, hw2⟩
set_option maxRecDepth 10000 in
set_option maxHeartbeats 8000000 in
theorem lsR_main_false (c : Cfg) (hf : c.Wf) (n cap b0 off : Nat) (L : List Int) (hL : ∀ x ∈ L, 0 ≤ x ∧ x < 18446744073709551616) (h : chk c = 0) (hs : (n : Int) = siz c) (hln : L.length = n) (w : World) (hb0 : b0 < w.heap.size) (hc : ∀ i (hi : i < L.length), w.cell? ⟨b0, off + i, none⟩ = some (.int .u64 L[i])) : Calls Try.prog 9 #[cv c, .slice (some ⟨b0, off, none⟩) n cap, .bool false] w (ListPost c L false w) := by
  have C0 := Bk.new w (ccM c) 24
  have hw0 : Below w.heap.size w (w.alloc (.cells (ccM c) 24)) := (Below.refl _ _).alloc (Nat.le_refl _) _
  have HC0 := Lib.hid (fun w => h ▸ refCheck c hf w)
  have HAL := Lib.hid (refAll c (chk_ok.1 h))
  have HSL := Lib.hid (spots_len (chk_ok.1 h))
  have HS := Lib.hid hs
  have hle := lsN_le c h false
  obtain ⟨nn, hnn⟩ : ∃ nn : Nat, lsN c false = (nn : Int) := ⟨(lsN c false).toNat, by omega⟩
  have hnn1 : nn ≤ 1000 := by omega
  have h3 := siz_ge h
  have hn1 : (1 : Int) < (n : Int) := by omega
  have hn2 : 1 < L.length := by omega
  have HC := Lib.hid hc
  have HHL := Lib.hid hL
  have HLK : RowKit.Hid (∀ k : Nat, k < nn → ∃ j : Nat, skLk c false (k : Int) = (j : Int) ∧ j < L.length) := Lib.hid (fun k hk => lk_in h (by omega) (by omega))
  have HLN := Lib.hid (fun (k : Int) w => (show _ = skLk c false k from (refAt_all c k 0).2.2.2.2.1) ▸ refAt_walk c hf (5, k, 0) w)
  obtain ⟨R, hR⟩ : ∃ R, R = listR c L false := ⟨_, rfl⟩
  have hR2 : R = walkL (lsNx c L false) (nn + 1) (List.replicate nn false) [] (low32 L[1] - 1) := by
    rw [hR, listR, if_pos ⟨h, by omega⟩, hnn]
    simp only [Int.toNat_natCast]
    congr 1
    simp [skH, List.getD_eq_getElem?_getD, hn2]
  have HR := Lib.hid hR
  have HR2 := Lib.hid hR2
  have hpr := tot_ok (okB_of_ok (chk_ok.1 h))
  have hcv : IntKind.u64.wrap (nn : Int) = (nn : Int) := by rw [IntKind.wrap_u64]; omega
  have HWM := Lib.hid (show wrap64 (c.sl * c.bl) = (nn : Int) by have h1 : tot c = (nn : Int) := hnn; rw [IntWalk.wrap64_in _ (by omega)]; omega)
  clear h hs hc hL hle hnn h3 hR hR2 hpr
  go_enter Try.func9, Try.ntmps9
  go_wp2_with (first | (refine wpList_load_row rfl 24 _ rfl w.heap.size rfl _ (ccM c) (0, 0) _ (by exact C0) Try.underlying24 rfl (by kernel_rfl) ?_) | (refine wpList_load_row_w rfl 24 _ rfl w.heap.size rfl _ (ccM c) (0, 0) _ (by exact C0) Try.underlying24 rfl (by kernel_rfl) ?_))
  refine (HC0.out _).mono ?_
  rintro en w1 ⟨rfl, hb1⟩
  have hw1 := hw0.trans (hb1.mono hw0.size)
  have C1 := C0.keep hb1
  clear hw0 hb1 C0
  go_wp2_with (first | (refine wpList_load_row rfl 24 _ rfl w.heap.size rfl _ (ccM c) (0, 0) _ (by exact C1) Try.underlying24 rfl (by kernel_rfl) ?_) | (refine wpList_load_row_w rfl 24 _ rfl w.heap.size rfl _ (ccM c) (0, 0) _ (by exact C1) Try.underlying24 rfl (by kernel_rfl) ?_))
  refine (HAL.out _).mono ?_
  rintro en w2 ⟨z, rfl, hz, hb2⟩
  obtain ⟨y0, rfl, hyl⟩ := owns_slI hz
  have hw2 := hw1.trans (hb2.mono hw1.size)
  have C2 := C1.keep hb2
  have hne : ((n : Int) != (y0.len : Int)) = false := by have := HS.out; have := HSL.out; simp; omega
  clear hz hb2 C1 hw1 hyl
  have hcc := C2.cells
  have B6 : Bk (w2.alloc (.cells (bv (List.replicate nn false)) 4)) w2.heap.size (bv (List.replicate nn false)) 4 := Bk.new _ _ _
  have hw6 := hw2.alloc hw2.size (.cells (bv (List.replicate nn false)) 4)
  have C6 := C2.keep ((Below.refl _ w2).alloc (Nat.le_refl _) (.cells (bv (List.replicate nn false)) 4))
  have lb6 := B6.lt
  have lc6 := C2.lt
  obtain ⟨wq6, hwq⟩ : ∃ u, u = w2.alloc (.cells (bv (List.replicate nn false)) 4) := ⟨_, rfl⟩
  obtain ⟨gs, hgs⟩ : ∃ g, g = w2.heap.size := ⟨_, rfl⟩
  rw [← hgs] at lc6
  rw [← hwq, ← hgs] at B6
  rw [← hwq] at hw6 C6
  rw [← hwq, ← hgs] at lb6
  have HWQ := Lib.hid hwq
  have HGS := Lib.hid hgs
  clear hwq hgs hw2 C2
  have hq := (hw6.cell (p := ⟨b0, off + 1, none⟩) hb0).trans (HC.out 1 hn2)
  obtain ⟨v0, hv0⟩ : ∃ v, v = L[1] := ⟨_, rfl⟩
  have hv1 : 0 ≤ v0 ∧ v0 < 18446744073709551616 := by rw [hv0]; exact HHL.out _ (List.getElem_mem hn2)
  rw [← hv0] at hq HR2
  clear hv0
  go_wp2_with (first | (refine make_bools Try.underlying88 infoB (by decide) rfl _ _ rfl nn rfl rfl (by omega) ?_; rw [← HWQ.out, ← HGS.out]; clear HWQ HGS) | (rw [HWM.out]; clear HWM))
  refine (rLow32 v0 hv1 _).mono ?_
  rintro en u7 ⟨rfl, rfl⟩
  have hx1 := low32_lt v0
  obtain ⟨x0, hx0⟩ : ∃ x, x = low32 v0 := ⟨_, rfl⟩
  rw [← hx0] at hx1
  simp only [← hx0]
  rw [← hx0] at HR2
  clear hx0 hq hv1 hcc
  go_wp2
  obtain ⟨wo, hwo⟩ : ∃ wo : World, wo = wq6 := ⟨_, rfl⟩
  have hwo1 : wo.heap.size ≤ wq6.heap.size := by rw [hwo]; exact Nat.le_refl _
  have lgs : gs < wo.heap.size := by rw [hwo]; exact lb6
  go_loopw [11, 13, 14] (fun l nx ii wr => ∃ (y : Sl) (out : List Int) (seen : List Bool) (x : Int), l = y.v ∧ nx = .int .u64 x ∧ (0 ≤ x ∧ x < 4294967296) ∧ seen.length = nn ∧ out.length + seen.count false = nn ∧ Owned wo.heap.size wr .i64 3 y out ∧ Bk wr gs (bv seen) 4 ∧ Bk wr w.heap.size (ccM c) 24 ∧ Below w.heap.size w wr ∧ wo.heap.size ≤ wr.heap.size ∧ walkL (lsNx c L false) (seen.count false + 1) seen out (x - 1) = R) (fun l _ _ _ => match l with | .slice _ m _ => nn - m | _ => 0)
  case atStart => exact ⟨nilS, [], List.replicate nn false, x0, rfl, rfl, hx1, by simp, by simp, Owned.nil, B6, C6, hw6, hwo1, by rw [HR2.out]; simp⟩
  case round =>
    clear B6 hw6 C6
    obtain ⟨y, out, seen, x, rfl, rfl, hnx, hsl, hcnt, O, BS, C, hw, hsz, hR⟩ := hrel
    by_cases hneg : x = 0
    · subst hneg
      have hfin : listR c L false = some out := by rw [← HR.out, ← hR, walk_end (by omega)]
      have HF := Lib.hid hfin
      clear hR hnx hfin
      go_wp2
      go_ret2
      exact ⟨y, by rw [HF.out]; rfl, by rw [HF.out]; exact O.base (by omega), hw⟩
    · obtain ⟨k, hxk⟩ : ∃ k : Nat, x - 1 = (k : Int) := ⟨(x - 1).toNat, by omega⟩
      have hxr := hnx
      rw [hxk] at hR
      have hd : (x != 0) = true := by simp; omega
      have HX1 := Lib.hid (show wrap64 (x - 1) = (k : Int) by unfold wrap64; omega)
      have HX2 := Lib.hid hxk
      have HX3 := Lib.hid (show wrap64 x = x by unfold wrap64; omega)
      by_cases hk : k < nn
      · have hks : k < seen.length := by omega
        have hd2 : decide ((nn : Int) < x) = false := by simp; omega
        have hcs : wr.cell? ⟨gs, k, none⟩ = some (.bool seen[k]) := by rw [BS.cells, bv_get hks]
        have hkn : (k : Int) < (nn : Int) := by omega
        cases hsk : seen[k] with
        | true =>
          have hfin : listR c L false = none := by rw [← HR.out, ← hR, walk_twice hks hsk]
          have HF := Lib.hid hfin
          rw [hsk] at hcs
          clear hR hneg hnx hfin hsk hxk
          go_wp2_with (first | (rw [HX1.out]) | (rw [HX2.out]) | (rw [HX3.out]))
          go_ret2
          exact ⟨nilS, by rw [HF.out]; rfl, by rw [HF.out]; exact Owned.nil, hw⟩
        | false =>
          have hle := free_less hks hsk
          have hR3 := hR
          rw [walk_on hks hsk] at hR3
          have HR3 := Lib.hid hR3
          rw [hsk] at hcs
          have hfs : wr.frozen? ⟨gs, k, none⟩ = false := BS.frozen k
          obtain ⟨j, hj, hjl⟩ := HLK.out k hk
          have BS1 : Bk (wr.setCell ⟨gs, k, none⟩ (.bool true)) gs (bv (seen.set k true)) 4 := by have := BS.setCell k (.bool true); rwa [bv_set] at this
          have C1 : Bk (wr.setCell ⟨gs, k, none⟩ (.bool true)) w.heap.size (ccM c) 24 := C.setCell_far (a := ⟨gs, k, none⟩) (by simp; omega) (.bool true)
          have hw1 := hw.setCell (p := ⟨gs, k, none⟩) (show w.heap.size ≤ gs by omega) (.bool true)
          have O1 : Owned wo.heap.size (wr.setCell ⟨gs, k, none⟩ (.bool true)) .i64 3 y out := O.setCell lgs k (.bool true)
          have hsz1 : wo.heap.size ≤ (wr.setCell ⟨gs, k, none⟩ (.bool true)).heap.size := by simpa using hsz
          obtain ⟨w1, hw1'⟩ : ∃ u, u = wr.setCell ⟨gs, k, none⟩ (.bool true) := ⟨_, rfl⟩
          rw [← hw1'] at BS1 hw1 O1 hsz1 C1
          have HW1 := Lib.hid hw1'
          have hlo := reads_len O1.reads
          clear hR hR3 hnx hneg hsk BS hw O hsz hw1' C hxk
          have hjn : (j : Int) < (n : Int) := by omega
          go_wp2_with (first | (rw [HX1.out]) | (rw [HX2.out]) | (rw [HX3.out]) | (rw [← HW1.out]; clear HW1 hcs hfs) | (at_builtin; refine append_one elemI rfl _ _ rfl wo.heap.size _ _ _ rfl (World.ownsRow.alloc O1 _) _ _ (k : Int) rfl (new_one _ _ _) (by first | omega | (simp; omega)) (by first | omega | (simp; omega)) ?_; intro y2 w2 r2 hb2 hk2; have BS2 := hk2 _ _ _ (by decide) (BS1.keep ((Below.refl _ _).alloc (Nat.le_refl _) _)); have C2 := hk2 _ _ _ (by decide) (C1.keep ((Below.refl _ _).alloc (Nat.le_refl _) _)); have hw2 := (hw1.trans (((Below.refl _ _).alloc (Nat.le_refl _) _).mono hw1.size)).trans (hb2.mono (by omega)); have hsz2 : wo.heap.size ≤ w2.heap.size := (by have h := hb2.size; rw [World.size_alloc] at h; omega); have O2 := own_one r2) | (refine wpList_load_row rfl 24 _ rfl w.heap.size rfl _ (ccM c) (0, 0) _ (by exact C2) Try.underlying24 rfl (by kernel_rfl) ?_))
          have hq2 := (hw2.cell (p := ⟨b0, off + j, none⟩) hb0).trans (HC.out j hjl)
          obtain ⟨v2, hv2⟩ : ∃ v, v = L[j] := ⟨_, rfl⟩
          have hv3 : 0 ≤ v2 ∧ v2 < 18446744073709551616 := by rw [hv2]; exact HHL.out _ (List.getElem_mem hjl)
          rw [← hv2] at hq2
          have hnx : lsNx c L false k = low32 v2 - 1 := by
            unfold lsNx
            rw [hj, Int.toNat_natCast, List.getD_eq_getElem?_getD, List.getElem?_eq_getElem hjl, hv2]
            rfl
          rw [hnx] at HR3
          have HLJ := Lib.hid (fun w => hj ▸ HLN.out (k : Int) w)
          have hl2 := reads_len O2.reads
          have hr1 := low32_lt v2
          clear hv2 hnx hj O1 BS1 hw1 hb2 hk2 r2 C1
          refine (HLJ.out _).mono ?_
          rintro en w3' ⟨rfl, hb3⟩
          have hq3 := (hb3.cell (p := ⟨b0, off + j, none⟩) (by have := hw2.size; show b0 < _; omega)).trans hq2
          have BS3 := BS2.keep hb3
          have C3 := C2.keep hb3
          have O3 := O2.keep hb3
          have hw3' := hw2.trans (hb3.mono hw2.size)
          have hsz3 : wo.heap.size ≤ w3'.heap.size := Nat.le_trans hsz2 hb3.size
          clear hq2 BS2 O2 hw2 hb3 C2
          go_wp2_with fail
          refine (rLow32 v2 hv3 _).mono ?_
          rintro en w4' ⟨rfl, rfl⟩
          go_wp2
          go_roundw
          case rel => exact ⟨y2, out ++ [(k : Int)], seen.set k true, low32 v2, rfl, rfl, hr1, by simpa using hsl, by simp; omega, O3, BS3, C3, hw3', hsz3, by rw [hle]; exact HR3.out⟩
          case measure =>
            have q1 : y2.len = out.length + 1 := by simpa using hl2
            show nn - y2.len < nn - y.len
            omega
      · have hd2 : decide ((nn : Int) < x) = true := by simp; omega
        have hfin : listR c L false = none := by rw [← HR.out, ← hR, walk_out (by omega)]
        have HF := Lib.hid hfin
        clear hR hneg hnx hfin hk hxk
        go_wp2_with (first | (rw [HX1.out]) | (rw [HX2.out]) | (rw [HX3.out]))
        go_ret2
        exact ⟨nilS, by rw [HF.out]; rfl, by rw [HF.out]; exact Owned.nil, hw⟩
set_option maxRecDepth 10000 in
set_option maxHeartbeats 8000000 in
theorem lsR_main_true (c : Cfg) (hf : c.Wf) (n cap b0 off : Nat) (L : List Int) (hL : ∀ x ∈ L, 0 ≤ x ∧ x < 18446744073709551616) (h : chk c = 0) (hs : (n : Int) = siz c) (hln : L.length = n) (w : World) (hb0 : b0 < w.heap.size) (hc : ∀ i (hi : i < L.length), w.cell? ⟨b0, off + i, none⟩ = some (.int .u64 L[i])) : Calls Try.prog 9 #[cv c, .slice (some ⟨b0, off, none⟩) n cap, .bool true] w (ListPost c L true w) := by
  have C0 := Bk.new w (ccM c) 24
  have hw0 : Below w.heap.size w (w.alloc (.cells (ccM c) 24)) := (Below.refl _ _).alloc (Nat.le_refl _) _
  have HC0 := Lib.hid (fun w => h ▸ refCheck c hf w)
  have HAL := Lib.hid (refAll c (chk_ok.1 h))
  have HSL := Lib.hid (spots_len (chk_ok.1 h))
  have HS := Lib.hid hs
  have hle := lsN_le c h true
  obtain ⟨nn, hnn⟩ : ∃ nn : Nat, lsN c true = (nn : Int) := ⟨(lsN c true).toNat, by omega⟩
  have hnn1 : nn ≤ 1000 := by omega
  have h3 := siz_ge h
  have hn1 : (2 : Int) < (n : Int) := by omega
  have hn2 : 2 < L.length := by omega
  have HC := Lib.hid hc
  have HHL := Lib.hid hL
  have HLK : RowKit.Hid (∀ k : Nat, k < nn → ∃ j : Nat, skLk c true (k : Int) = (j : Int) ∧ j < L.length) := Lib.hid (fun k hk => lk_in h (by omega) (by omega))
  have HLN := Lib.hid (fun (k : Int) w => (show _ = skLk c true k from (refAt_all c k 0).2.2.2.1) ▸ refAt_walk c hf (4, k, 0) w)
  obtain ⟨R, hR⟩ : ∃ R, R = listR c L true := ⟨_, rfl⟩
  have hR2 : R = walkL (lsNx c L true) (nn + 1) (List.replicate nn false) [] (low32 L[2] - 1) := by
    rw [hR, listR, if_pos ⟨h, by omega⟩, hnn]
    simp only [Int.toNat_natCast]
    congr 1
    simp [skH, List.getD_eq_getElem?_getD, hn2]
  have HR := Lib.hid hR
  have HR2 := Lib.hid hR2
  have hpr := tot_ok (okB_of_ok (chk_ok.1 h))
  have hcv : IntKind.u64.wrap (nn : Int) = (nn : Int) := by rw [IntKind.wrap_u64]; omega
  have HCE := Lib.hid (show c.en = (nn : Int) from hnn)
  clear h hs hc hL hle hnn h3 hR hR2 hpr
  go_enter Try.func9, Try.ntmps9
  go_wp2_with (first | (refine wpList_load_row rfl 24 _ rfl w.heap.size rfl _ (ccM c) (0, 0) _ (by exact C0) Try.underlying24 rfl (by kernel_rfl) ?_) | (refine wpList_load_row_w rfl 24 _ rfl w.heap.size rfl _ (ccM c) (0, 0) _ (by exact C0) Try.underlying24 rfl (by kernel_rfl) ?_))
  refine (HC0.out _).mono ?_
  rintro en w1 ⟨rfl, hb1⟩
  have hw1 := hw0.trans (hb1.mono hw0.size)
  have C1 := C0.keep hb1
  clear hw0 hb1 C0
  go_wp2_with (first | (refine wpList_load_row rfl 24 _ rfl w.heap.size rfl _ (ccM c) (0, 0) _ (by exact C1) Try.underlying24 rfl (by kernel_rfl) ?_) | (refine wpList_load_row_w rfl 24 _ rfl w.heap.size rfl _ (ccM c) (0, 0) _ (by exact C1) Try.underlying24 rfl (by kernel_rfl) ?_))
  refine (HAL.out _).mono ?_
  rintro en w2 ⟨z, rfl, hz, hb2⟩
  obtain ⟨y0, rfl, hyl⟩ := owns_slI hz
  have hw2 := hw1.trans (hb2.mono hw1.size)
  have C2 := C1.keep hb2
  have hne : ((n : Int) != (y0.len : Int)) = false := by have := HS.out; have := HSL.out; simp; omega
  clear hz hb2 C1 hw1 hyl
  have hcc := C2.cells
  have B6 : Bk (w2.alloc (.cells (bv (List.replicate nn false)) 4)) w2.heap.size (bv (List.replicate nn false)) 4 := Bk.new _ _ _
  have hw6 := hw2.alloc hw2.size (.cells (bv (List.replicate nn false)) 4)
  have C6 := C2.keep ((Below.refl _ w2).alloc (Nat.le_refl _) (.cells (bv (List.replicate nn false)) 4))
  have lb6 := B6.lt
  have lc6 := C2.lt
  obtain ⟨wq6, hwq⟩ : ∃ u, u = w2.alloc (.cells (bv (List.replicate nn false)) 4) := ⟨_, rfl⟩
  obtain ⟨gs, hgs⟩ : ∃ g, g = w2.heap.size := ⟨_, rfl⟩
  rw [← hgs] at lc6
  rw [← hwq, ← hgs] at B6
  rw [← hwq] at hw6 C6
  rw [← hwq, ← hgs] at lb6
  have HWQ := Lib.hid hwq
  have HGS := Lib.hid hgs
  clear hwq hgs hw2 C2
  have hq := (hw6.cell (p := ⟨b0, off + 2, none⟩) hb0).trans (HC.out 2 hn2)
  obtain ⟨v0, hv0⟩ : ∃ v, v = L[2] := ⟨_, rfl⟩
  have hv1 : 0 ≤ v0 ∧ v0 < 18446744073709551616 := by rw [hv0]; exact HHL.out _ (List.getElem_mem hn2)
  rw [← hv0] at hq HR2
  clear hv0
  go_wp2_with (first | (refine make_bools Try.underlying88 infoB (by decide) rfl _ _ rfl nn rfl rfl (by omega) ?_; rw [← HWQ.out, ← HGS.out]; clear HWQ HGS) | (rw [HCE.out]; clear HCE))
  refine (rLow32 v0 hv1 _).mono ?_
  rintro en u7 ⟨rfl, rfl⟩
  have hx1 := low32_lt v0
  obtain ⟨x0, hx0⟩ : ∃ x, x = low32 v0 := ⟨_, rfl⟩
  rw [← hx0] at hx1
  simp only [← hx0]
  rw [← hx0] at HR2
  clear hx0 hq hv1 hcc
  go_wp2
  obtain ⟨wo, hwo⟩ : ∃ wo : World, wo = wq6 := ⟨_, rfl⟩
  have hwo1 : wo.heap.size ≤ wq6.heap.size := by rw [hwo]; exact Nat.le_refl _
  have lgs : gs < wo.heap.size := by rw [hwo]; exact lb6
  go_loopw [11, 13, 14] (fun l nx ii wr => ∃ (y : Sl) (out : List Int) (seen : List Bool) (x : Int), l = y.v ∧ nx = .int .u64 x ∧ (0 ≤ x ∧ x < 4294967296) ∧ seen.length = nn ∧ out.length + seen.count false = nn ∧ Owned wo.heap.size wr .i64 3 y out ∧ Bk wr gs (bv seen) 4 ∧ Bk wr w.heap.size (ccM c) 24 ∧ Below w.heap.size w wr ∧ wo.heap.size ≤ wr.heap.size ∧ walkL (lsNx c L true) (seen.count false + 1) seen out (x - 1) = R) (fun l _ _ _ => match l with | .slice _ m _ => nn - m | _ => 0)
  case atStart => exact ⟨nilS, [], List.replicate nn false, x0, rfl, rfl, hx1, by simp, by simp, Owned.nil, B6, C6, hw6, hwo1, by rw [HR2.out]; simp⟩
  case round =>
    clear B6 hw6 C6
    obtain ⟨y, out, seen, x, rfl, rfl, hnx, hsl, hcnt, O, BS, C, hw, hsz, hR⟩ := hrel
    by_cases hneg : x = 0
    · subst hneg
      have hfin : listR c L true = some out := by rw [← HR.out, ← hR, walk_end (by omega)]
      have HF := Lib.hid hfin
      clear hR hnx hfin
      go_wp2
      go_ret2
      exact ⟨y, by rw [HF.out]; rfl, by rw [HF.out]; exact O.base (by omega), hw⟩
    · obtain ⟨k, hxk⟩ : ∃ k : Nat, x - 1 = (k : Int) := ⟨(x - 1).toNat, by omega⟩
      have hxr := hnx
      rw [hxk] at hR
      have hd : (x != 0) = true := by simp; omega
      have HX1 := Lib.hid (show wrap64 (x - 1) = (k : Int) by unfold wrap64; omega)
      have HX2 := Lib.hid hxk
      have HX3 := Lib.hid (show wrap64 x = x by unfold wrap64; omega)
      by_cases hk : k < nn
      · have hks : k < seen.length := by omega
        have hd2 : decide ((nn : Int) < x) = false := by simp; omega
        have hcs : wr.cell? ⟨gs, k, none⟩ = some (.bool seen[k]) := by rw [BS.cells, bv_get hks]
        have hkn : (k : Int) < (nn : Int) := by omega
        cases hsk : seen[k] with
        | true =>
          have hfin : listR c L true = none := by rw [← HR.out, ← hR, walk_twice hks hsk]
          have HF := Lib.hid hfin
          rw [hsk] at hcs
          clear hR hneg hnx hfin hsk hxk
          go_wp2_with (first | (rw [HX1.out]) | (rw [HX2.out]) | (rw [HX3.out]))
          go_ret2
          exact ⟨nilS, by rw [HF.out]; rfl, by rw [HF.out]; exact Owned.nil, hw⟩
        | false =>
          have hle := free_less hks hsk
          have hR3 := hR
          rw [walk_on hks hsk] at hR3
          have HR3 := Lib.hid hR3
          rw [hsk] at hcs
          have hfs : wr.frozen? ⟨gs, k, none⟩ = false := BS.frozen k
          obtain ⟨j, hj, hjl⟩ := HLK.out k hk
          have BS1 : Bk (wr.setCell ⟨gs, k, none⟩ (.bool true)) gs (bv (seen.set k true)) 4 := by have := BS.setCell k (.bool true); rwa [bv_set] at this
          have C1 : Bk (wr.setCell ⟨gs, k, none⟩ (.bool true)) w.heap.size (ccM c) 24 := C.setCell_far (a := ⟨gs, k, none⟩) (by simp; omega) (.bool true)
          have hw1 := hw.setCell (p := ⟨gs, k, none⟩) (show w.heap.size ≤ gs by omega) (.bool true)
          have O1 : Owned wo.heap.size (wr.setCell ⟨gs, k, none⟩ (.bool true)) .i64 3 y out := O.setCell lgs k (.bool true)
          have hsz1 : wo.heap.size ≤ (wr.setCell ⟨gs, k, none⟩ (.bool true)).heap.size := by simpa using hsz
          obtain ⟨w1, hw1'⟩ : ∃ u, u = wr.setCell ⟨gs, k, none⟩ (.bool true) := ⟨_, rfl⟩
          rw [← hw1'] at BS1 hw1 O1 hsz1 C1
          have HW1 := Lib.hid hw1'
          have hlo := reads_len O1.reads
          clear hR hR3 hnx hneg hsk BS hw O hsz hw1' C hxk
          have hjn : (j : Int) < (n : Int) := by omega
          go_wp2_with (first | (rw [HX1.out]) | (rw [HX2.out]) | (rw [HX3.out]) | (rw [← HW1.out]; clear HW1 hcs hfs) | (at_builtin; refine append_one elemI rfl _ _ rfl wo.heap.size _ _ _ rfl (World.ownsRow.alloc O1 _) _ _ (k : Int) rfl (new_one _ _ _) (by first | omega | (simp; omega)) (by first | omega | (simp; omega)) ?_; intro y2 w2 r2 hb2 hk2; have BS2 := hk2 _ _ _ (by decide) (BS1.keep ((Below.refl _ _).alloc (Nat.le_refl _) _)); have C2 := hk2 _ _ _ (by decide) (C1.keep ((Below.refl _ _).alloc (Nat.le_refl _) _)); have hw2 := (hw1.trans (((Below.refl _ _).alloc (Nat.le_refl _) _).mono hw1.size)).trans (hb2.mono (by omega)); have hsz2 : wo.heap.size ≤ w2.heap.size := (by have h := hb2.size; rw [World.size_alloc] at h; omega); have O2 := own_one r2) | (refine wpList_load_row rfl 24 _ rfl w.heap.size rfl _ (ccM c) (0, 0) _ (by exact C2) Try.underlying24 rfl (by kernel_rfl) ?_))
          have hq2 := (hw2.cell (p := ⟨b0, off + j, none⟩) hb0).trans (HC.out j hjl)
          obtain ⟨v2, hv2⟩ : ∃ v, v = L[j] := ⟨_, rfl⟩
          have hv3 : 0 ≤ v2 ∧ v2 < 18446744073709551616 := by rw [hv2]; exact HHL.out _ (List.getElem_mem hjl)
          rw [← hv2] at hq2
          have hnx : lsNx c L true k = low32 v2 - 1 := by
            unfold lsNx
            rw [hj, Int.toNat_natCast, List.getD_eq_getElem?_getD, List.getElem?_eq_getElem hjl, hv2]
            rfl
          rw [hnx] at HR3
          have HLJ := Lib.hid (fun w => hj ▸ HLN.out (k : Int) w)
          have hl2 := reads_len O2.reads
          have hr1 := low32_lt v2
          clear hv2 hnx hj O1 BS1 hw1 hb2 hk2 r2 C1
          refine (HLJ.out _).mono ?_
          rintro en w3' ⟨rfl, hb3⟩
          have hq3 := (hb3.cell (p := ⟨b0, off + j, none⟩) (by have := hw2.size; show b0 < _; omega)).trans hq2
          have BS3 := BS2.keep hb3
          have C3 := C2.keep hb3
          have O3 := O2.keep hb3
          have hw3' := hw2.trans (hb3.mono hw2.size)
          have hsz3 : wo.heap.size ≤ w3'.heap.size := Nat.le_trans hsz2 hb3.size
          clear hq2 BS2 O2 hw2 hb3 C2
          go_wp2_with fail
          refine (rLow32 v2 hv3 _).mono ?_
          rintro en w4' ⟨rfl, rfl⟩
          go_wp2
          go_roundw
          case rel => exact ⟨y2, out ++ [(k : Int)], seen.set k true, low32 v2, rfl, rfl, hr1, by simpa using hsl, by simp; omega, O3, BS3, C3, hw3', hsz3, by rw [hle]; exact HR3.out⟩
          case measure =>
            have q1 : y2.len = out.length + 1 := by simpa using hl2
            show nn - y2.len < nn - y.len
            omega
      · have hd2 : decide ((nn : Int) < x) = true := by simp; omega
        have hfin : listR c L true = none := by rw [← HR.out, ← hR, walk_out (by omega)]
        have HF := Lib.hid hfin
        clear hR hneg hnx hfin hk hxk
        go_wp2_with (first | (rw [HX1.out]) | (rw [HX2.out]) | (rw [HX3.out]))
        go_ret2
        exact ⟨nilS, by rw [HF.out]; rfl, by rw [HF.out]; exact Owned.nil, hw⟩
end Go.Proofs.Ytgpdkagmacpghaa.Me
