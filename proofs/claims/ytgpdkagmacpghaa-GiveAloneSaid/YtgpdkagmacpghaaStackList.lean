/- stack.List (made by genlist.py). -/
import Derived.Test.YtgpdkagmacpghaaListNum
import Derived.Test.YtgpdkagmacpghaaInsideRef
namespace Go.Proofs.Ytgpdkagmacpghaa.Me
open Go Go.RowKit Go.Proofs.Ytgpdkagmacpghaa.Gro Go.Proofs.Ytgpdkagmacpghaa.Own Go.Proofs.Ytgpdkagmacpghaa.Wd Go.Proofs.Ytgpdkagmacpghaa.Ap Go.Proofs.Ytgpdkagmacpghaa.Pl Go.Proofs.Ytgpdkagmacpghaa.Wo
set_option linter.unusedVariables false
set_option linter.unusedSimpArgs false
set_option maxRecDepth 10000 in
set_option maxHeartbeats 8000000 in
theorem lsP_bad (c : Cfg) (hf : c.Wf) (ad : Option Addr) (n cap : Nat) (e : Bool) (h : chk c ≠ 0) (w : World) : Calls Try.prog 94 #[cv c, .slice ad n cap, .bool e] w (fun en w' => en = .returned (.tuple #[.slice none 0 0, .bool false]) ∧ Below w.heap.size w w') := by
  have C0 := Bk.new w (ccM c) 24
  have hw0 : Below w.heap.size w (w.alloc (.cells (ccM c) 24)) := (Below.refl _ _).alloc (Nat.le_refl _) _
  have hp := newPlan c hf
  rw [show nc c = ⟨0, 0, 0, 0, 0, 0, 0, 0⟩ by rw [nc, if_neg h]] at hp
  have HP := Lib.hid hp
  have te : (chk c != 0) = true := by simp [h]
  clear hp h
  go_enter Try.func94, Try.ntmps94
  go_wp2_with (first | (refine wpList_load_row rfl 24 _ rfl w.heap.size rfl _ (ccM c) (0, 0) _ (by exact C0) Try.underlying24 rfl (by kernel_rfl) ?_) | (refine wpList_load_row_w rfl 24 _ rfl w.heap.size rfl _ (ccM c) (0, 0) _ (by exact C0) Try.underlying24 rfl (by kernel_rfl) ?_))
  refine (HP.out _).mono ?_
  rintro en w1 ⟨rfl, hb1⟩
  have hw1 := hw0.trans (hb1.mono hw0.size)
  have P1 := Bk.new w1 (ccM ⟨0, 0, 0, 0, 0, 0, 0, 0⟩) 75
  have hw2 := hw1.alloc hw1.size (.cells (ccM ⟨0, 0, 0, 0, 0, 0, 0, 0⟩) 75)
  have x1 := P1.cells
  clear hw0 hb1 C0 hw1
  go_wp2
  go_ret2
  exact ⟨rfl, hw2⟩
set_option maxRecDepth 10000 in
set_option maxHeartbeats 8000000 in
theorem lsP_len (c : Cfg) (hf : c.Wf) (ad : Option Addr) (n cap : Nat) (e : Bool) (h : chk c = 0) (hs : (n : Int) ≠ siz c) (w : World) : Calls Try.prog 94 #[cv c, .slice ad n cap, .bool e] w (fun en w' => en = .returned (.tuple #[.slice none 0 0, .bool false]) ∧ Below w.heap.size w w') := by
  have C0 := Bk.new w (ccM c) 24
  have hw0 : Below w.heap.size w (w.alloc (.cells (ccM c) 24)) := (Below.refl _ _).alloc (Nat.le_refl _) _
  have hp := newPlan c hf
  rw [show nc c = c by rw [nc, if_pos h], h] at hp
  have HP := Lib.hid hp
  have HSZ := Lib.hid (Pl.size c hf)
  have ts : ((n : Int) != siz c) = true := by simp [hs]
  clear hp h hs
  go_enter Try.func94, Try.ntmps94
  go_wp2_with (first | (refine wpList_load_row rfl 24 _ rfl w.heap.size rfl _ (ccM c) (0, 0) _ (by exact C0) Try.underlying24 rfl (by kernel_rfl) ?_) | (refine wpList_load_row_w rfl 24 _ rfl w.heap.size rfl _ (ccM c) (0, 0) _ (by exact C0) Try.underlying24 rfl (by kernel_rfl) ?_))
  refine (HP.out _).mono ?_
  rintro en w1 ⟨rfl, hb1⟩
  have hw1 := hw0.trans (hb1.mono hw0.size)
  have P1 := Bk.new w1 (ccM c) 75
  have hw2 := hw1.alloc hw1.size (.cells (ccM c) 75)
  have x1 := P1.cells
  clear hw0 hb1 C0 hw1
  go_wp2_with fail
  refine (HSZ.out _).mono ?_
  rintro en w3 ⟨rfl, hb3⟩
  have hw3 := hw2.trans (hb3.mono hw2.size)
  have P3 := P1.keep hb3
  clear x1 P1 hb3 hw2
  go_wp2
  go_ret2
  exact ⟨rfl, hw3⟩
set_option maxRecDepth 10000 in
set_option maxHeartbeats 8000000 in
theorem lsP_main_false (c : Cfg) (hf : c.Wf) (n cap b0 off : Nat) (L : List Int) (hL : ∀ x ∈ L, 0 ≤ x ∧ x < 18446744073709551616) (h : chk c = 0) (hs : (n : Int) = siz c) (hln : L.length = n) (w : World) (hb0 : b0 < w.heap.size) (hc : ∀ i (hi : i < L.length), w.cell? ⟨b0, off + i, none⟩ = some (.int .u64 L[i])) : Calls Try.prog 94 #[cv c, .slice (some ⟨b0, off, none⟩) n cap, .bool false] w (ListPost c L false w) := by
  have C0 := Bk.new w (ccM c) 24
  have hw0 : Below w.heap.size w (w.alloc (.cells (ccM c) 24)) := (Below.refl _ _).alloc (Nat.le_refl _) _
  have hp := newPlan c hf
  rw [show nc c = c by rw [nc, if_pos h], h] at hp
  have HP := Lib.hid hp
  have HSZ := Lib.hid (Pl.size c hf)
  have ts : ((n : Int) != siz c) = false := by simp [hs]
  have hmk : ∀ (fn : Fn) (first cap : Array Value) (w : World), (Instr.makeFunc fn first cap).run Try.prog w = .ok (.func fn first cap) w := fun _ _ _ _ => rfl
  have hle := lsN_le c h false
  obtain ⟨nn, hnn⟩ : ∃ nn : Nat, lsN c false = (nn : Int) := ⟨(lsN c false).toNat, by omega⟩
  have hnn1 : nn ≤ 1000 := by omega
  have h3 := siz_ge h
  have hn1 : (1 : Int) < (n : Int) := by omega
  have hn2 : 1 < L.length := by omega
  have HC := Lib.hid hc
  have HHL := Lib.hid hL
  have HLK : RowKit.Hid (∀ k : Nat, k < nn → ∃ j : Nat, skLk c false (k : Int) = (j : Int) ∧ j < L.length) := Lib.hid (fun k hk => lk_in h (by omega) (by omega))
  have HLN : RowKit.Hid (∀ (k : Int) (w : World), Calls Try.prog 120 #[cv c, .int .i64 k] w fun e w' => e = .returned (.int .i64 (skLk c false k)) ∧ Below w.heap.size w w') := Lib.hid (fun k w => Pl.blockLink c hf k w)
  obtain ⟨R, hR⟩ : ∃ R, R = listR c L false := ⟨_, rfl⟩
  have hR2 : R = walkL (lsNx c L false) (nn + 1) (List.replicate nn false) [] (L[1] % 4294967296 - 1) := by
    rw [hR, listR, if_pos ⟨h, by omega⟩, hnn]
    simp only [Int.toNat_natCast]
    congr 1
    unfold low32
    simp [skH, List.getD_eq_getElem?_getD, hn2]
  have HR := Lib.hid hR
  have HR2 := Lib.hid hR2
  have HTT : RowKit.Hid (∀ w, Calls Try.prog 88 #[cv c] w fun e w' => e = .returned (.int .i64 (nn : Int)) ∧ Below w.heap.size w w') := Lib.hid (fun w => by have := Pl.total c hf w; rwa [show tot c = (nn : Int) from hnn] at this)
  clear hp h hs hc hL hle hnn h3 hR hR2
  go_enter Try.func94, Try.ntmps94
  go_wp2_with (first | (refine wpList_load_row rfl 24 _ rfl w.heap.size rfl _ (ccM c) (0, 0) _ (by exact C0) Try.underlying24 rfl (by kernel_rfl) ?_) | (refine wpList_load_row_w rfl 24 _ rfl w.heap.size rfl _ (ccM c) (0, 0) _ (by exact C0) Try.underlying24 rfl (by kernel_rfl) ?_))
  refine (HP.out _).mono ?_
  rintro en w1 ⟨rfl, hb1⟩
  have hw1 := hw0.trans (hb1.mono hw0.size)
  have P1 := Bk.new w1 (ccM c) 75
  have hw2 := hw1.alloc hw1.size (.cells (ccM c) 75)
  have x1 := P1.cells
  clear hw0 hb1 C0 hw1
  go_wp2_with fail
  refine (HSZ.out _).mono ?_
  rintro en w3 ⟨rfl, hb3⟩
  have hw3 := hw2.trans (hb3.mono hw2.size)
  have P3 := P1.keep hb3
  clear x1 P1 hb3 hw2
  go_wp2
  have hS0 : Below w3.heap.size w3 w3.drew := Below.drew (Below.refl _ _)
  refine wp_region_held_drew (S := fun w' => Below w3.heap.size w3 w') (by kernel_rfl) hS0 (fun hHeld => ?_)
  clear hS0
  generalize w3.drew = v0 at *
  refine wpAnyH_take (i := 0) (oi := _) (v := cv c) rfl (by kernel_rfl) (by kernel_rfl) (by kernel_rfl) (fun _ _ _ h => h) (Or.inl ⟨by rfl, fun w' hSw => by have xx := (P3.keep hSw).cells; go_simp⟩) hHeld ?_
  try simp only [Act.put, List.getElem_toArray, List.getElem_cons_succ, List.getElem_cons_zero, List.setIfInBounds_toArray, List.set_cons_succ, List.set_cons_zero]
  refine wpAnyH_take (i := 1) (oi := _) (v := .func (.func 120) #[cv c] #[]) rfl (by kernel_rfl) (by kernel_rfl) (by kernel_rfl) (fun _ _ _ h => h) (Or.inl ⟨by rfl, fun w' hSw => by go_simp⟩) hHeld ?_
  try simp only [Act.put, List.getElem_toArray, List.getElem_cons_succ, List.getElem_cons_zero, List.setIfInBounds_toArray, List.set_cons_succ, List.set_cons_zero]
  refine wpAnyH_take (i := 2) (oi := _) (v := cv c) rfl (by kernel_rfl) (by kernel_rfl) (by kernel_rfl) (fun _ _ _ h => h) (Or.inl ⟨by rfl, fun w' hSw => by have xx := (P3.keep hSw).cells; go_simp⟩) hHeld ?_
  try simp only [Act.put, List.getElem_toArray, List.getElem_cons_succ, List.getElem_cons_zero, List.setIfInBounds_toArray, List.set_cons_succ, List.set_cons_zero]
  refine wpAnyH_ready (rs := [3]) (by kernel_rfl) (by simp) ?_
  refine AllReadyH.cons (o := _) rfl (fun K hK => ?_) AllReadyH.nil
  go_simp
  refine (HTT.out _).mono ?_
  rintro en z1 ⟨rfl, hb⟩
  refine hK.out _ _ (hHeld.trans (hb.mono hHeld.size)) (fun hHeld => ?_)
  clear hK K hb
  try simp only [Act.put, List.getElem_toArray, List.getElem_cons_succ, List.getElem_cons_zero, List.setIfInBounds_toArray, List.set_cons_succ, List.set_cons_zero]
  refine wpAnyH_take (i := 4) (oi := _) (v := .int .i64 1) rfl (by kernel_rfl) (by kernel_rfl) (by kernel_rfl) (fun _ _ _ h => h) (Or.inl ⟨by rfl, fun w' hSw => by go_simp⟩) hHeld ?_
  try simp only [Act.put, List.getElem_toArray, List.getElem_cons_succ, List.getElem_cons_zero, List.setIfInBounds_toArray, List.set_cons_succ, List.set_cons_zero]
  refine wpAnyH_take (i := 5) (oi := _) (v := .func (.func 120) #[cv c] #[]) rfl (by kernel_rfl) (by kernel_rfl) (by kernel_rfl) (fun _ _ _ h => h) (Or.inl ⟨by rfl, fun w' hSw => by go_simp⟩) hHeld ?_
  try simp only [Act.put, List.getElem_toArray, List.getElem_cons_succ, List.getElem_cons_zero, List.setIfInBounds_toArray, List.set_cons_succ, List.set_cons_zero]
  refine wpAnyH_take (i := 6) (oi := _) (v := .int .i64 (nn : Int)) rfl (by kernel_rfl) (by kernel_rfl) (by kernel_rfl) (fun _ _ _ h => h) (Or.inl ⟨by rfl, fun w' hSw => by go_simp⟩) hHeld ?_
  try simp only [Act.put, List.getElem_toArray, List.getElem_cons_succ, List.getElem_cons_zero, List.setIfInBounds_toArray, List.set_cons_succ, List.set_cons_zero]
  refine wpAnyH_done (by kernel_rfl) ?_ _
  have hw4 := hw3.trans (hHeld.mono hw3.size)
  have P4 := P3.keep hHeld
  clear hHeld hw3 P3
  have hw5 := hw4
  clear hw4 P4
  have B6 : Bk (z1.alloc (.cells (bv (List.replicate nn false)) 4)) z1.heap.size (bv (List.replicate nn false)) 4 := Bk.new _ _ _
  have hw6 := hw5.alloc hw5.size (.cells (bv (List.replicate nn false)) 4)
  have lb6 := B6.lt
  clear hmk
  obtain ⟨wq6, hwq⟩ : ∃ u, u = z1.alloc (.cells (bv (List.replicate nn false)) 4) := ⟨_, rfl⟩
  obtain ⟨gs, hgs⟩ : ∃ g, g = z1.heap.size := ⟨_, rfl⟩
  have gs0 : w.heap.size ≤ gs := by have := hw5.size; omega
  rw [← hwq, ← hgs] at B6
  rw [← hwq] at hw6
  rw [← hwq, ← hgs] at lb6
  have HWQ := Lib.hid hwq
  have HGS := Lib.hid hgs
  clear hwq hgs hw5
  have hq := (hw6.cell (p := ⟨b0, off + 1, none⟩) hb0).trans (HC.out 1 hn2)
  obtain ⟨v0, hv0⟩ : ∃ v, v = L[1] := ⟨_, rfl⟩
  have hv1 : 0 ≤ v0 ∧ v0 < 18446744073709551616 := by rw [hv0]; exact HHL.out _ (List.getElem_mem hn2)
  rw [← hv0] at hq HR2
  clear hv0
  go_wp2_with (first | (refine make_bools Try.underlying88 infoB (by decide) rfl _ _ rfl nn rfl rfl (by omega) ?_; rw [← HWQ.out, ← HGS.out]; clear HWQ HGS))
  refine (Pk.unhead v0 hv1.1 hv1.2 _).mono ?_
  rintro en u7 ⟨rfl, rfl⟩
  have hr1 := low32_lt v0
  unfold low32 at hr1
  obtain ⟨x0, hx0⟩ : ∃ x, x = v0 % 4294967296 - 1 := ⟨_, rfl⟩
  have hx1 : -1 ≤ x0 ∧ x0 < 4294967296 := by omega
  simp only [← hx0]
  rw [← hx0] at HR2
  clear hx0 hr1 hq hv1
  go_wp2
  obtain ⟨wo, hwo⟩ : ∃ wo : World, wo = wq6 := ⟨_, rfl⟩
  have hwo1 : wo.heap.size ≤ wq6.heap.size := by rw [hwo]; exact Nat.le_refl _
  have lgs : gs < wo.heap.size := by rw [hwo]; exact lb6
  go_loopw [13, 15] (fun l nx wr => ∃ (y : Sl) (out : List Int) (seen : List Bool) (next : Int), l = y.v ∧ nx = .int .i64 next ∧ (-1 ≤ next ∧ next < 4294967296) ∧ seen.length = nn ∧ out.length + seen.count false = nn ∧ Owned wo.heap.size wr .i64 3 y out ∧ Bk wr gs (bv seen) 4 ∧ Below w.heap.size w wr ∧ wo.heap.size ≤ wr.heap.size ∧ walkL (lsNx c L false) (seen.count false + 1) seen out next = R) (fun l _ _ => match l with | .slice _ m _ => nn - m | _ => 0)
  case atStart => exact ⟨nilS, [], List.replicate nn false, x0, rfl, rfl, hx1, by simp, by simp, Owned.nil, B6, hw6, hwo1, by rw [HR2.out]; simp⟩
  case round =>
    clear B6 hw6
    obtain ⟨y, out, seen, next, rfl, rfl, hnx, hsl, hcnt, O, BS, hw, hsz, hR⟩ := hrel
    by_cases hneg : next < 0
    · have hd : decide (0 ≤ next) = false := by simp; omega
      have hfin : listR c L false = some out := by rw [← HR.out, ← hR, walk_end hneg]
      have HF := Lib.hid hfin
      clear hR hneg hnx hfin
      go_wp2
      go_ret2
      exact ⟨y, by rw [HF.out]; rfl, by rw [HF.out]; exact O.base (by omega), hw⟩
    · obtain ⟨k, rfl⟩ : ∃ k : Nat, next = (k : Int) := ⟨next.toNat, by omega⟩
      have hd : decide (0 ≤ (k : Int)) = true := by simp
      by_cases hk : k < nn
      · have hks : k < seen.length := by omega
        have hd2 : decide (nn ≤ k) = false := by simp; omega
        have hcs : wr.cell? ⟨gs, k, none⟩ = some (.bool seen[k]) := by rw [BS.cells, bv_get hks]
        have hkn : (k : Int) < (nn : Int) := by omega
        cases hsk : seen[k] with
        | true =>
          have hfin : listR c L false = none := by rw [← HR.out, ← hR, walk_twice hks hsk]
          have HF := Lib.hid hfin
          rw [hsk] at hcs
          clear hR hneg hnx hfin hsk
          go_wp2
          go_ret2
          exact ⟨nilS, by rw [HF.out]; rfl, by rw [HF.out]; exact Owned.nil, hw⟩
        | false =>
          have hle := free_less hks hsk
          have hR3 := hR
          rw [walk_on hks hsk] at hR3
          have HR3 := Lib.hid hR3
          rw [hsk] at hcs
          have hfs : wr.frozen? ⟨gs, k, none⟩ = false := BS.frozen k
          obtain ⟨j, hj, hjl⟩ := HLK.out k hk
          have BS1 : Bk (wr.setCell ⟨gs, k, none⟩ (.bool true)) gs (bv (seen.set k true)) 4 := by have := BS.setCell k (.bool true); rwa [bv_set] at this
          have hw1 := hw.setCell (p := ⟨gs, k, none⟩) gs0 (.bool true)
          have O1 : Owned wo.heap.size (wr.setCell ⟨gs, k, none⟩ (.bool true)) .i64 3 y out := O.setCell lgs k (.bool true)
          have hsz1 : wo.heap.size ≤ (wr.setCell ⟨gs, k, none⟩ (.bool true)).heap.size := by simpa using hsz
          obtain ⟨w1, hw1'⟩ : ∃ u, u = wr.setCell ⟨gs, k, none⟩ (.bool true) := ⟨_, rfl⟩
          rw [← hw1'] at BS1 hw1 O1 hsz1
          have HW1 := Lib.hid hw1'
          have hlo := reads_len O1.reads
          clear hR hR3 hnx hneg hsk BS hw O hsz hw1'
          go_wp2_with (first | (rw [← HW1.out]; clear HW1 hcs hfs) | (at_builtin; refine append_one elemI rfl _ _ rfl wo.heap.size _ _ _ rfl (World.ownsRow.alloc O1 _) _ _ (k : Int) rfl (new_one _ _ _) (by first | omega | (simp; omega)) (by first | omega | (simp; omega)) ?_; intro y2 w2 r2 hb2 hk2; have BS2 := hk2 _ _ _ (by decide) (BS1.keep ((Below.refl _ _).alloc (Nat.le_refl _) _)); have hw2 := (hw1.trans (((Below.refl _ _).alloc (Nat.le_refl _) _).mono hw1.size)).trans (hb2.mono (by omega)); have hsz2 : wo.heap.size ≤ w2.heap.size := (by have h := hb2.size; rw [World.size_alloc] at h; omega); have O2 := own_one r2))
          have hq2 := (hw2.cell (p := ⟨b0, off + j, none⟩) hb0).trans (HC.out j hjl)
          obtain ⟨v2, hv2⟩ : ∃ v, v = L[j] := ⟨_, rfl⟩
          have hv3 : 0 ≤ v2 ∧ v2 < 18446744073709551616 := by rw [hv2]; exact HHL.out _ (List.getElem_mem hjl)
          rw [← hv2] at hq2
          have hnx : lsNx c L false k = v2 % 4294967296 - 1 := by
            unfold lsNx low32
            rw [hj, Int.toNat_natCast, List.getD_eq_getElem?_getD, List.getElem?_eq_getElem hjl, hv2]
            rfl
          rw [hnx] at HR3
          have HLJ := Lib.hid (fun w => hj ▸ HLN.out (k : Int) w)
          have hjn : (j : Int) < (n : Int) := by omega
          have hl2 := reads_len O2.reads
          have hr1 := low32_lt v2
          unfold low32 at hr1
          clear hv2 hnx hj O1 BS1 hw1 hb2 hk2 r2
          go_wp2_with fail
          refine (HLJ.out _).mono ?_
          rintro en w3' ⟨rfl, hb3⟩
          have hq3 := (hb3.cell (p := ⟨b0, off + j, none⟩) (by have := hw2.size; show b0 < _; omega)).trans hq2
          have BS3 := BS2.keep hb3
          have O3 := O2.keep hb3
          have hw3' := hw2.trans (hb3.mono hw2.size)
          have hsz3 : wo.heap.size ≤ w3'.heap.size := Nat.le_trans hsz2 hb3.size
          clear hq2 BS2 O2 hw2 hb3
          go_wp2_with fail
          refine (Pk.unhead v2 hv3.1 hv3.2 _).mono ?_
          rintro en w4' ⟨rfl, rfl⟩
          go_wp2
          go_roundw
          case rel => exact ⟨y2, out ++ [(k : Int)], seen.set k true, v2 % 4294967296 - 1, rfl, rfl, by omega, by simpa using hsl, by simp; omega, O3, BS3, hw3', hsz3, by rw [hle]; exact HR3.out⟩
          case measure =>
            have q1 : y2.len = out.length + 1 := by simpa using hl2
            show nn - y2.len < nn - y.len
            omega
      · have hd2 : decide (nn ≤ k) = true := by simp; omega
        have hfin : listR c L false = none := by rw [← HR.out, ← hR, walk_out (by omega)]
        have HF := Lib.hid hfin
        clear hR hneg hnx hfin hk
        go_wp2
        go_ret2
        exact ⟨nilS, by rw [HF.out]; rfl, by rw [HF.out]; exact Owned.nil, hw⟩
set_option maxRecDepth 10000 in
set_option maxHeartbeats 8000000 in
theorem lsP_main_true (c : Cfg) (hf : c.Wf) (n cap b0 off : Nat) (L : List Int) (hL : ∀ x ∈ L, 0 ≤ x ∧ x < 18446744073709551616) (h : chk c = 0) (hs : (n : Int) = siz c) (hln : L.length = n) (w : World) (hb0 : b0 < w.heap.size) (hc : ∀ i (hi : i < L.length), w.cell? ⟨b0, off + i, none⟩ = some (.int .u64 L[i])) : Calls Try.prog 94 #[cv c, .slice (some ⟨b0, off, none⟩) n cap, .bool true] w (ListPost c L true w) := by
  have C0 := Bk.new w (ccM c) 24
  have hw0 : Below w.heap.size w (w.alloc (.cells (ccM c) 24)) := (Below.refl _ _).alloc (Nat.le_refl _) _
  have hp := newPlan c hf
  rw [show nc c = c by rw [nc, if_pos h], h] at hp
  have HP := Lib.hid hp
  have HSZ := Lib.hid (Pl.size c hf)
  have ts : ((n : Int) != siz c) = false := by simp [hs]
  have hmk : ∀ (fn : Fn) (first cap : Array Value) (w : World), (Instr.makeFunc fn first cap).run Try.prog w = .ok (.func fn first cap) w := fun _ _ _ _ => rfl
  have hle := lsN_le c h true
  obtain ⟨nn, hnn⟩ : ∃ nn : Nat, lsN c true = (nn : Int) := ⟨(lsN c true).toNat, by omega⟩
  have hnn1 : nn ≤ 1000 := by omega
  have h3 := siz_ge h
  have hn1 : (2 : Int) < (n : Int) := by omega
  have hn2 : 2 < L.length := by omega
  have HC := Lib.hid hc
  have HHL := Lib.hid hL
  have HLK : RowKit.Hid (∀ k : Nat, k < nn → ∃ j : Nat, skLk c true (k : Int) = (j : Int) ∧ j < L.length) := Lib.hid (fun k hk => lk_in h (by omega) (by omega))
  have HLN : RowKit.Hid (∀ (k : Int) (w : World), Calls Try.prog 103 #[cv c, .int .i64 k] w fun e w' => e = .returned (.int .i64 (skLk c true k)) ∧ Below w.heap.size w w') := Lib.hid (fun k w => Pl.entryLink c hf k w)
  obtain ⟨R, hR⟩ : ∃ R, R = listR c L true := ⟨_, rfl⟩
  have hR2 : R = walkL (lsNx c L true) (nn + 1) (List.replicate nn false) [] (L[2] % 4294967296 - 1) := by
    rw [hR, listR, if_pos ⟨h, by omega⟩, hnn]
    simp only [Int.toNat_natCast]
    congr 1
    unfold low32
    simp [skH, List.getD_eq_getElem?_getD, hn2]
  have HR := Lib.hid hR
  have HR2 := Lib.hid hR2
  have HCE := Lib.hid (show c.en = (nn : Int) from hnn)
  have HTT : RowKit.Hid (∀ w, Calls Try.prog 88 #[cv c] w fun e w' => e = .returned (.int .i64 (tot c)) ∧ Below w.heap.size w w') := Lib.hid (fun w => Pl.total c hf w)
  clear hp h hs hc hL hle hnn h3 hR hR2
  go_enter Try.func94, Try.ntmps94
  go_wp2_with (first | (refine wpList_load_row rfl 24 _ rfl w.heap.size rfl _ (ccM c) (0, 0) _ (by exact C0) Try.underlying24 rfl (by kernel_rfl) ?_) | (refine wpList_load_row_w rfl 24 _ rfl w.heap.size rfl _ (ccM c) (0, 0) _ (by exact C0) Try.underlying24 rfl (by kernel_rfl) ?_))
  refine (HP.out _).mono ?_
  rintro en w1 ⟨rfl, hb1⟩
  have hw1 := hw0.trans (hb1.mono hw0.size)
  have P1 := Bk.new w1 (ccM c) 75
  have hw2 := hw1.alloc hw1.size (.cells (ccM c) 75)
  have x1 := P1.cells
  clear hw0 hb1 C0 hw1
  go_wp2_with fail
  refine (HSZ.out _).mono ?_
  rintro en w3 ⟨rfl, hb3⟩
  have hw3 := hw2.trans (hb3.mono hw2.size)
  have P3 := P1.keep hb3
  clear x1 P1 hb3 hw2
  go_wp2
  have hS0 : Below w3.heap.size w3 w3.drew := Below.drew (Below.refl _ _)
  refine wp_region_held_drew (S := fun w' => Below w3.heap.size w3 w') (by kernel_rfl) hS0 (fun hHeld => ?_)
  clear hS0
  generalize w3.drew = v0 at *
  refine wpAnyH_take (i := 0) (oi := _) (v := cv c) rfl (by kernel_rfl) (by kernel_rfl) (by kernel_rfl) (fun _ _ _ h => h) (Or.inl ⟨by rfl, fun w' hSw => by have xx := (P3.keep hSw).cells; go_simp⟩) hHeld ?_
  try simp only [Act.put, List.getElem_toArray, List.getElem_cons_succ, List.getElem_cons_zero, List.setIfInBounds_toArray, List.set_cons_succ, List.set_cons_zero]
  refine wpAnyH_take (i := 1) (oi := _) (v := .func (.func 120) #[cv c] #[]) rfl (by kernel_rfl) (by kernel_rfl) (by kernel_rfl) (fun _ _ _ h => h) (Or.inl ⟨by rfl, fun w' hSw => by go_simp⟩) hHeld ?_
  try simp only [Act.put, List.getElem_toArray, List.getElem_cons_succ, List.getElem_cons_zero, List.setIfInBounds_toArray, List.set_cons_succ, List.set_cons_zero]
  refine wpAnyH_take (i := 2) (oi := _) (v := cv c) rfl (by kernel_rfl) (by kernel_rfl) (by kernel_rfl) (fun _ _ _ h => h) (Or.inl ⟨by rfl, fun w' hSw => by have xx := (P3.keep hSw).cells; go_simp⟩) hHeld ?_
  try simp only [Act.put, List.getElem_toArray, List.getElem_cons_succ, List.getElem_cons_zero, List.setIfInBounds_toArray, List.set_cons_succ, List.set_cons_zero]
  refine wpAnyH_ready (rs := [3]) (by kernel_rfl) (by simp) ?_
  refine AllReadyH.cons (o := _) rfl (fun K hK => ?_) AllReadyH.nil
  go_simp
  refine (HTT.out _).mono ?_
  rintro en z1 ⟨rfl, hb⟩
  refine hK.out _ _ (hHeld.trans (hb.mono hHeld.size)) (fun hHeld => ?_)
  clear hK K hb
  try simp only [Act.put, List.getElem_toArray, List.getElem_cons_succ, List.getElem_cons_zero, List.setIfInBounds_toArray, List.set_cons_succ, List.set_cons_zero]
  refine wpAnyH_take (i := 4) (oi := _) (v := .int .i64 1) rfl (by kernel_rfl) (by kernel_rfl) (by kernel_rfl) (fun _ _ _ h => h) (Or.inl ⟨by rfl, fun w' hSw => by go_simp⟩) hHeld ?_
  try simp only [Act.put, List.getElem_toArray, List.getElem_cons_succ, List.getElem_cons_zero, List.setIfInBounds_toArray, List.set_cons_succ, List.set_cons_zero]
  refine wpAnyH_take (i := 5) (oi := _) (v := .func (.func 120) #[cv c] #[]) rfl (by kernel_rfl) (by kernel_rfl) (by kernel_rfl) (fun _ _ _ h => h) (Or.inl ⟨by rfl, fun w' hSw => by go_simp⟩) hHeld ?_
  try simp only [Act.put, List.getElem_toArray, List.getElem_cons_succ, List.getElem_cons_zero, List.setIfInBounds_toArray, List.set_cons_succ, List.set_cons_zero]
  refine wpAnyH_take (i := 6) (oi := _) (v := .int .i64 (tot c)) rfl (by kernel_rfl) (by kernel_rfl) (by kernel_rfl) (fun _ _ _ h => h) (Or.inl ⟨by rfl, fun w' hSw => by go_simp⟩) hHeld ?_
  try simp only [Act.put, List.getElem_toArray, List.getElem_cons_succ, List.getElem_cons_zero, List.setIfInBounds_toArray, List.set_cons_succ, List.set_cons_zero]
  refine wpAnyH_done (by kernel_rfl) ?_ _
  have hw4 := hw3.trans (hHeld.mono hw3.size)
  have P4 := P3.keep hHeld
  clear hHeld hw3 P3
  go_wp2
  have hS0 : Below z1.heap.size z1 z1.drew := Below.drew (Below.refl _ _)
  refine wp_region_held_drew (S := fun w' => Below z1.heap.size z1 w') (by kernel_rfl) hS0 (fun hHeld => ?_)
  clear hS0
  generalize z1.drew = v1 at *
  refine wpAnyH_take (i := 0) (oi := _) (v := cv c) rfl (by kernel_rfl) (by kernel_rfl) (by kernel_rfl) (fun _ _ _ h => h) (Or.inl ⟨by rfl, fun w' hSw => by have xx := (P4.keep hSw).cells; go_simp⟩) hHeld ?_
  try simp only [Act.put, List.getElem_toArray, List.getElem_cons_succ, List.getElem_cons_zero, List.setIfInBounds_toArray, List.set_cons_succ, List.set_cons_zero]
  refine wpAnyH_take (i := 1) (oi := _) (v := .func (.func 103) #[cv c] #[]) rfl (by kernel_rfl) (by kernel_rfl) (by kernel_rfl) (fun _ _ _ h => h) (Or.inl ⟨by rfl, fun w' hSw => by go_simp⟩) hHeld ?_
  try simp only [Act.put, List.getElem_toArray, List.getElem_cons_succ, List.getElem_cons_zero, List.setIfInBounds_toArray, List.set_cons_succ, List.set_cons_zero]
  refine wpAnyH_take (i := 2) (oi := _) (v := .pointer (some ⟨w1.heap.size, 0, none⟩)) rfl (by kernel_rfl) (by kernel_rfl) (by kernel_rfl) (fun _ _ _ h => h) (Or.inl ⟨by rfl, fun w' hSw => by go_simp⟩) hHeld ?_
  try simp only [Act.put, List.getElem_toArray, List.getElem_cons_succ, List.getElem_cons_zero, List.setIfInBounds_toArray, List.set_cons_succ, List.set_cons_zero]
  refine wpAnyH_take (i := 3) (oi := _) (v := .pointer (some ⟨w1.heap.size, 4, none⟩)) rfl (by kernel_rfl) (by kernel_rfl) (by kernel_rfl) (fun _ _ _ h => h) (Or.inl ⟨by rfl, fun w' hSw => by go_simp⟩) hHeld ?_
  try simp only [Act.put, List.getElem_toArray, List.getElem_cons_succ, List.getElem_cons_zero, List.setIfInBounds_toArray, List.set_cons_succ, List.set_cons_zero]
  refine wpAnyH_take (i := 4) (oi := _) (v := .int .i64 c.en) rfl (by kernel_rfl) (by kernel_rfl) (by kernel_rfl) (fun _ _ _ h => h) (Or.inl ⟨by rfl, fun w' hSw => by have xx := (P4.keep hSw).cells; go_simp⟩) hHeld ?_
  try simp only [Act.put, List.getElem_toArray, List.getElem_cons_succ, List.getElem_cons_zero, List.setIfInBounds_toArray, List.set_cons_succ, List.set_cons_zero]
  refine wpAnyH_take (i := 5) (oi := _) (v := .int .i64 2) rfl (by kernel_rfl) (by kernel_rfl) (by kernel_rfl) (fun _ _ _ h => h) (Or.inl ⟨by rfl, fun w' hSw => by go_simp⟩) hHeld ?_
  try simp only [Act.put, List.getElem_toArray, List.getElem_cons_succ, List.getElem_cons_zero, List.setIfInBounds_toArray, List.set_cons_succ, List.set_cons_zero]
  refine wpAnyH_take (i := 6) (oi := _) (v := .func (.func 103) #[cv c] #[]) rfl (by kernel_rfl) (by kernel_rfl) (by kernel_rfl) (fun _ _ _ h => h) (Or.inl ⟨by rfl, fun w' hSw => by go_simp⟩) hHeld ?_
  try simp only [Act.put, List.getElem_toArray, List.getElem_cons_succ, List.getElem_cons_zero, List.setIfInBounds_toArray, List.set_cons_succ, List.set_cons_zero]
  refine wpAnyH_take (i := 7) (oi := _) (v := .int .i64 c.en) rfl (by kernel_rfl) (by kernel_rfl) (by kernel_rfl) (fun _ _ _ h => h) (Or.inl ⟨by rfl, fun w' hSw => by go_simp⟩) hHeld ?_
  try simp only [Act.put, List.getElem_toArray, List.getElem_cons_succ, List.getElem_cons_zero, List.setIfInBounds_toArray, List.set_cons_succ, List.set_cons_zero]
  refine wpAnyH_done (by kernel_rfl) ?_ _
  rw [HCE.out]
  have hw5 := hw4.trans (hHeld.mono hw4.size)
  clear hHeld hw4 P4
  have B6 : Bk (v1.alloc (.cells (bv (List.replicate nn false)) 4)) v1.heap.size (bv (List.replicate nn false)) 4 := Bk.new _ _ _
  have hw6 := hw5.alloc hw5.size (.cells (bv (List.replicate nn false)) 4)
  have lb6 := B6.lt
  clear hmk
  obtain ⟨wq6, hwq⟩ : ∃ u, u = v1.alloc (.cells (bv (List.replicate nn false)) 4) := ⟨_, rfl⟩
  obtain ⟨gs, hgs⟩ : ∃ g, g = v1.heap.size := ⟨_, rfl⟩
  have gs0 : w.heap.size ≤ gs := by have := hw5.size; omega
  rw [← hwq, ← hgs] at B6
  rw [← hwq] at hw6
  rw [← hwq, ← hgs] at lb6
  have HWQ := Lib.hid hwq
  have HGS := Lib.hid hgs
  clear hwq hgs hw5
  have hq := (hw6.cell (p := ⟨b0, off + 2, none⟩) hb0).trans (HC.out 2 hn2)
  obtain ⟨v0, hv0⟩ : ∃ v, v = L[2] := ⟨_, rfl⟩
  have hv1 : 0 ≤ v0 ∧ v0 < 18446744073709551616 := by rw [hv0]; exact HHL.out _ (List.getElem_mem hn2)
  rw [← hv0] at hq HR2
  clear hv0
  go_wp2_with (first | (refine make_bools Try.underlying88 infoB (by decide) rfl _ _ rfl nn rfl rfl (by omega) ?_; rw [← HWQ.out, ← HGS.out]; clear HWQ HGS))
  refine (Pk.unhead v0 hv1.1 hv1.2 _).mono ?_
  rintro en u7 ⟨rfl, rfl⟩
  have hr1 := low32_lt v0
  unfold low32 at hr1
  obtain ⟨x0, hx0⟩ : ∃ x, x = v0 % 4294967296 - 1 := ⟨_, rfl⟩
  have hx1 : -1 ≤ x0 ∧ x0 < 4294967296 := by omega
  simp only [← hx0]
  rw [← hx0] at HR2
  clear hx0 hr1 hq hv1
  go_wp2
  obtain ⟨wo, hwo⟩ : ∃ wo : World, wo = wq6 := ⟨_, rfl⟩
  have hwo1 : wo.heap.size ≤ wq6.heap.size := by rw [hwo]; exact Nat.le_refl _
  have lgs : gs < wo.heap.size := by rw [hwo]; exact lb6
  go_loopw [13, 15] (fun l nx wr => ∃ (y : Sl) (out : List Int) (seen : List Bool) (next : Int), l = y.v ∧ nx = .int .i64 next ∧ (-1 ≤ next ∧ next < 4294967296) ∧ seen.length = nn ∧ out.length + seen.count false = nn ∧ Owned wo.heap.size wr .i64 3 y out ∧ Bk wr gs (bv seen) 4 ∧ Below w.heap.size w wr ∧ wo.heap.size ≤ wr.heap.size ∧ walkL (lsNx c L true) (seen.count false + 1) seen out next = R) (fun l _ _ => match l with | .slice _ m _ => nn - m | _ => 0)
  case atStart => exact ⟨nilS, [], List.replicate nn false, x0, rfl, rfl, hx1, by simp, by simp, Owned.nil, B6, hw6, hwo1, by rw [HR2.out]; simp⟩
  case round =>
    clear B6 hw6
    obtain ⟨y, out, seen, next, rfl, rfl, hnx, hsl, hcnt, O, BS, hw, hsz, hR⟩ := hrel
    by_cases hneg : next < 0
    · have hd : decide (0 ≤ next) = false := by simp; omega
      have hfin : listR c L true = some out := by rw [← HR.out, ← hR, walk_end hneg]
      have HF := Lib.hid hfin
      clear hR hneg hnx hfin
      go_wp2
      go_ret2
      exact ⟨y, by rw [HF.out]; rfl, by rw [HF.out]; exact O.base (by omega), hw⟩
    · obtain ⟨k, rfl⟩ : ∃ k : Nat, next = (k : Int) := ⟨next.toNat, by omega⟩
      have hd : decide (0 ≤ (k : Int)) = true := by simp
      by_cases hk : k < nn
      · have hks : k < seen.length := by omega
        have hd2 : decide (nn ≤ k) = false := by simp; omega
        have hcs : wr.cell? ⟨gs, k, none⟩ = some (.bool seen[k]) := by rw [BS.cells, bv_get hks]
        have hkn : (k : Int) < (nn : Int) := by omega
        cases hsk : seen[k] with
        | true =>
          have hfin : listR c L true = none := by rw [← HR.out, ← hR, walk_twice hks hsk]
          have HF := Lib.hid hfin
          rw [hsk] at hcs
          clear hR hneg hnx hfin hsk
          go_wp2
          go_ret2
          exact ⟨nilS, by rw [HF.out]; rfl, by rw [HF.out]; exact Owned.nil, hw⟩
        | false =>
          have hle := free_less hks hsk
          have hR3 := hR
          rw [walk_on hks hsk] at hR3
          have HR3 := Lib.hid hR3
          rw [hsk] at hcs
          have hfs : wr.frozen? ⟨gs, k, none⟩ = false := BS.frozen k
          obtain ⟨j, hj, hjl⟩ := HLK.out k hk
          have BS1 : Bk (wr.setCell ⟨gs, k, none⟩ (.bool true)) gs (bv (seen.set k true)) 4 := by have := BS.setCell k (.bool true); rwa [bv_set] at this
          have hw1 := hw.setCell (p := ⟨gs, k, none⟩) gs0 (.bool true)
          have O1 : Owned wo.heap.size (wr.setCell ⟨gs, k, none⟩ (.bool true)) .i64 3 y out := O.setCell lgs k (.bool true)
          have hsz1 : wo.heap.size ≤ (wr.setCell ⟨gs, k, none⟩ (.bool true)).heap.size := by simpa using hsz
          obtain ⟨w1, hw1'⟩ : ∃ u, u = wr.setCell ⟨gs, k, none⟩ (.bool true) := ⟨_, rfl⟩
          rw [← hw1'] at BS1 hw1 O1 hsz1
          have HW1 := Lib.hid hw1'
          have hlo := reads_len O1.reads
          clear hR hR3 hnx hneg hsk BS hw O hsz hw1'
          go_wp2_with (first | (rw [← HW1.out]; clear HW1 hcs hfs) | (at_builtin; refine append_one elemI rfl _ _ rfl wo.heap.size _ _ _ rfl (World.ownsRow.alloc O1 _) _ _ (k : Int) rfl (new_one _ _ _) (by first | omega | (simp; omega)) (by first | omega | (simp; omega)) ?_; intro y2 w2 r2 hb2 hk2; have BS2 := hk2 _ _ _ (by decide) (BS1.keep ((Below.refl _ _).alloc (Nat.le_refl _) _)); have hw2 := (hw1.trans (((Below.refl _ _).alloc (Nat.le_refl _) _).mono hw1.size)).trans (hb2.mono (by omega)); have hsz2 : wo.heap.size ≤ w2.heap.size := (by have h := hb2.size; rw [World.size_alloc] at h; omega); have O2 := own_one r2))
          have hq2 := (hw2.cell (p := ⟨b0, off + j, none⟩) hb0).trans (HC.out j hjl)
          obtain ⟨v2, hv2⟩ : ∃ v, v = L[j] := ⟨_, rfl⟩
          have hv3 : 0 ≤ v2 ∧ v2 < 18446744073709551616 := by rw [hv2]; exact HHL.out _ (List.getElem_mem hjl)
          rw [← hv2] at hq2
          have hnx : lsNx c L true k = v2 % 4294967296 - 1 := by
            unfold lsNx low32
            rw [hj, Int.toNat_natCast, List.getD_eq_getElem?_getD, List.getElem?_eq_getElem hjl, hv2]
            rfl
          rw [hnx] at HR3
          have HLJ := Lib.hid (fun w => hj ▸ HLN.out (k : Int) w)
          have hjn : (j : Int) < (n : Int) := by omega
          have hl2 := reads_len O2.reads
          have hr1 := low32_lt v2
          unfold low32 at hr1
          clear hv2 hnx hj O1 BS1 hw1 hb2 hk2 r2
          go_wp2_with fail
          refine (HLJ.out _).mono ?_
          rintro en w3' ⟨rfl, hb3⟩
          have hq3 := (hb3.cell (p := ⟨b0, off + j, none⟩) (by have := hw2.size; show b0 < _; omega)).trans hq2
          have BS3 := BS2.keep hb3
          have O3 := O2.keep hb3
          have hw3' := hw2.trans (hb3.mono hw2.size)
          have hsz3 : wo.heap.size ≤ w3'.heap.size := Nat.le_trans hsz2 hb3.size
          clear hq2 BS2 O2 hw2 hb3
          go_wp2_with fail
          refine (Pk.unhead v2 hv3.1 hv3.2 _).mono ?_
          rintro en w4' ⟨rfl, rfl⟩
          go_wp2
          go_roundw
          case rel => exact ⟨y2, out ++ [(k : Int)], seen.set k true, v2 % 4294967296 - 1, rfl, rfl, by omega, by simpa using hsl, by simp; omega, O3, BS3, hw3', hsz3, by rw [hle]; exact HR3.out⟩
          case measure =>
            have q1 : y2.len = out.length + 1 := by simpa using hl2
            show nn - y2.len < nn - y.len
            omega
      · have hd2 : decide (nn ≤ k) = true := by simp; omega
        have hfin : listR c L true = none := by rw [← HR.out, ← hR, walk_out (by omega)]
        have HF := Lib.hid hfin
        clear hR hneg hnx hfin hk
        go_wp2
        go_ret2
        exact ⟨nilS, by rw [HF.out]; rfl, by rw [HF.out]; exact Owned.nil, hw⟩
end Go.Proofs.Ytgpdkagmacpghaa.Me
