/- take.Spare and the reference's (made by gentake.py). -/
import Derived.Test.YtblkfbbdeodpjaaSlabReady
import Derived.Test.YtblkfbbdeodpjaaListNum
import Derived.Test.YtblkfbbdeodpjaaRefStep
namespace Go.Proofs.Ytblkfbbdeodpjaa.Me
open Go Go.RowKit Go.Proofs.Ytblkfbbdeodpjaa.Gro Go.Proofs.Ytblkfbbdeodpjaa.Own Go.Proofs.Ytblkfbbdeodpjaa.Wd Go.Proofs.Ytblkfbbdeodpjaa.Ap Go.Proofs.Ytblkfbbdeodpjaa.Pl Go.Proofs.Ytblkfbbdeodpjaa.Wo
set_option linter.unusedVariables false
set_option linter.unusedSimpArgs false
/-- Has the free list a block, or is one of the first k slabs ready? -/
def sprB (c : Cfg) (L : List Int) (e : Int) : Nat → Bool
  | 0 => decide (low32 (L.getD 1 0) ≠ 0)
  | k + 1 => sprB c L e k || rdyB (L.getD (3 + c.ww.toNat + k) 0) e
def spare (c : Cfg) (L : List Int) (e : Int) : Bool := decide (chk c = 0 ∧ (L.length : Int) = siz c) && sprB c L e c.sl.toNat
theorem spr_mono {c : Cfg} {L : List Int} {e : Int} {k : Nat} (h : sprB c L e k = true) : ∀ m, sprB c L e (k + m) = true
  | 0 => h
  | m + 1 => by rw [← Nat.add_assoc, sprB, spr_mono h m]; rfl
theorem spr_le {c : Cfg} {L : List Int} {e : Int} {k n : Nat} (h : sprB c L e k = true) (hn : k ≤ n) : sprB c L e n = true := by
  obtain ⟨m, rfl⟩ := Nat.exists_eq_add_of_le hn
  exact spr_mono h m
theorem spr_no {c : Cfg} {L : List Int} {e : Int} (h : ¬ (chk c = 0 ∧ (L.length : Int) = siz c)) : spare c L e = false := by
  rw [spare, decide_eq_false h]; rfl
theorem spr_yes {c : Cfg} {L : List Int} {e : Int} (h : chk c = 0) (hs : (L.length : Int) = siz c) : spare c L e = sprB c L e c.sl.toNat := by
  rw [spare, decide_eq_true ⟨h, hs⟩]; rfl
theorem slab_in {c : Cfg} {L : List Int} (h : chk c = 0) (hs : (L.length : Int) = siz c) {k : Nat} (hk : (k : Int) < c.sl) : ∃ j : Nat, aSlab c (k : Int) = (j : Int) ∧ j = 3 + c.ww.toNat + k ∧ j < L.length := by
  have hok := chk_ok.1 h
  have hww := hok.ww
  have h1 := hok.sl
  have h2 := hok.en
  have h3 := hok.bl
  have h4 := hok.wd
  have m1 := mul_range (a := c.sl) (b := c.bl) (A := 8) (B := 16) (by omega) (by omega) (by omega) (by omega)
  have m2 := mul_range (a := c.sl * c.bl) (b := 1 + c.wd) (A := 128) (B := 5) (by omega) (by omega) (by omega) (by omega)
  have hz : (k : Int) + 3 + c.ww < siz c := by
    rw [siz, if_pos (okB_of_ok hok)]
    omega
  refine ⟨3 + c.ww.toNat + k, ?_, rfl, by omega⟩
  rw [aSlab, if_pos]
  · omega
  · rw [hasB_ok hok]; exact ⟨by omega, hk⟩
set_option maxRecDepth 10000 in
set_option maxHeartbeats 8000000 in
theorem spP_bad (c : Cfg) (hf : c.Wf) (ad : Option Addr) (n cap : Nat) (e : Int) (h : chk c ≠ 0) (w : World) : Calls Try.prog 34 #[cv c, .slice ad n cap, .int .u64 e] w (RetB (.bool false) w) := by
  have C0 := Bk.new w (ccM c) 24
  have hw0 : Below w.heap.size w (w.alloc (.cells (ccM c) 24)) := (Below.refl _ _).alloc (Nat.le_refl _) _
  have hp := newPlan c hf
  rw [show nc c = ⟨0, 0, 0, 0, 0, 0, 0, 0⟩ by rw [nc, if_neg h]] at hp
  have HP := Lib.hid hp
  have te : (chk c != 0) = true := by simp [h]
  clear hp h
  go_enter Try.func34, Try.ntmps34
  go_wp2_with (first | (refine wpList_load_row rfl 24 _ rfl w.heap.size rfl _ (ccM c) (0, 0) _ (by exact C0) Try.underlying24 rfl (by kernel_rfl) ?_) | (refine wpList_load_row_w rfl 24 _ rfl w.heap.size rfl _ (ccM c) (0, 0) _ (by exact C0) Try.underlying24 rfl (by kernel_rfl) ?_))
  refine (HP.out _).mono ?_
  rintro en w1 ⟨rfl, hb1⟩
  have hw1 := hw0.trans (hb1.mono hw0.size)
  have P1 := Bk.new w1 (ccM ⟨0, 0, 0, 0, 0, 0, 0, 0⟩) 76
  have hw2 := hw1.alloc hw1.size (.cells (ccM ⟨0, 0, 0, 0, 0, 0, 0, 0⟩) 76)
  clear hw0 hb1 C0 hw1
  have x1 := P1.cells
  go_wp2
  go_ret
  exact ⟨rfl, hw2⟩
set_option maxRecDepth 10000 in
set_option maxHeartbeats 8000000 in
theorem spP_len (c : Cfg) (hf : c.Wf) (ad : Option Addr) (n cap : Nat) (e : Int) (h : chk c = 0) (hs : (n : Int) ≠ siz c) (w : World) : Calls Try.prog 34 #[cv c, .slice ad n cap, .int .u64 e] w (RetB (.bool false) w) := by
  have C0 := Bk.new w (ccM c) 24
  have hw0 : Below w.heap.size w (w.alloc (.cells (ccM c) 24)) := (Below.refl _ _).alloc (Nat.le_refl _) _
  have hp := newPlan c hf
  rw [show nc c = c by rw [nc, if_pos h], h] at hp
  have HP := Lib.hid hp
  have HSZ := Lib.hid (Pl.size c hf)
  have ts : ((n : Int) != siz c) = true := by simp [hs]
  clear hp h hs
  go_enter Try.func34, Try.ntmps34
  go_wp2_with (first | (refine wpList_load_row rfl 24 _ rfl w.heap.size rfl _ (ccM c) (0, 0) _ (by exact C0) Try.underlying24 rfl (by kernel_rfl) ?_) | (refine wpList_load_row_w rfl 24 _ rfl w.heap.size rfl _ (ccM c) (0, 0) _ (by exact C0) Try.underlying24 rfl (by kernel_rfl) ?_))
  refine (HP.out _).mono ?_
  rintro en w1 ⟨rfl, hb1⟩
  have hw1 := hw0.trans (hb1.mono hw0.size)
  have P1 := Bk.new w1 (ccM c) 76
  have hw2 := hw1.alloc hw1.size (.cells (ccM c) 76)
  have C1 := (C0.keep hb1).alloc (.cells (ccM c) 76)
  clear hw0 hb1 C0 hw1
  go_wp2_with (first | (refine wpList_load_row rfl 76 _ rfl w1.heap.size rfl _ (ccM c) (0, 0) _ (by exact P1) Try.underlying76 rfl (by kernel_rfl) ?_) | (refine wpList_load_row_w rfl 76 _ rfl w1.heap.size rfl _ (ccM c) (0, 0) _ (by exact P1) Try.underlying76 rfl (by kernel_rfl) ?_))
  refine (HSZ.out _).mono ?_
  rintro en w3 ⟨rfl, hb3⟩
  have hw3 := hw2.trans (hb3.mono hw2.size)
  have P3 := P1.keep hb3
  clear P1 hb3 hw2 C1
  go_wp2
  go_ret
  exact ⟨rfl, hw3⟩
set_option maxRecDepth 10000 in
set_option maxHeartbeats 8000000 in
theorem spP_head (c : Cfg) (hf : c.Wf) (n cap b0 off : Nat) (e : Int) (he : e < 18446744073709551616) (L : List Int) (hL : ∀ x ∈ L, 0 ≤ x ∧ x < 18446744073709551616) (h : chk c = 0) (hs : (n : Int) = siz c) (hln : L.length = n) (w : World) (hb0 : b0 < w.heap.size) (hc : ∀ i (hi : i < L.length), w.cell? ⟨b0, off + i, none⟩ = some (.int .u64 L[i])) (V : Int) (hVe : L.getD 1 0 = V) (hz : low32 V ≠ 0) : Calls Try.prog 34 #[cv c, .slice (some ⟨b0, off, none⟩) n cap, .int .u64 e] w (RetB (.bool (spare c L e)) w) := by
  have C0 := Bk.new w (ccM c) 24
  have hw0 : Below w.heap.size w (w.alloc (.cells (ccM c) 24)) := (Below.refl _ _).alloc (Nat.le_refl _) _
  have hsz := siz_ge h
  have hn1 : (1 : Int) < (n : Int) := by omega
  have hn2 : 1 < L.length := by omega
  have hV : V = L[1] := by rw [← hVe, List.getD_eq_getElem?_getD, List.getElem?_eq_getElem hn2]; rfl
  have hVr : 0 ≤ V ∧ V < 18446744073709551616 := by rw [hV]; exact hL _ (List.getElem_mem hn2)
  have hc1 := hc 1 hn2
  rw [← hV] at hc1
  have hg1 : L.getD 1 0 = V := by rw [List.getD_eq_getElem?_getD, List.getElem?_eq_getElem hn2, hV]; rfl
  obtain ⟨nn, hnn⟩ : ∃ nn : Nat, c.sl = (nn : Int) := ⟨c.sl.toNat, by have := (chk_ok.1 h).sl; omega⟩
  have hn9 : nn ≤ 8 := by have := (chk_ok.1 h).sl; omega
  have hsp : spare c L e = sprB c L e nn := by rw [spr_yes h (by omega), hnn]; rfl
  have HSP := Lib.hid hsp
  have H0 := Lib.hid (show sprB c L e 0 = decide (low32 V ≠ 0) by rw [sprB, hg1])
  have HC := Lib.hid hc
  have HHL := Lib.hid hL
  have HC1 := Lib.hid hc1
  have HNN := Lib.hid hnn
  have HLN := Lib.hid hln
  have HIN : RowKit.Hid (∀ k : Nat, k < nn → ∃ j : Nat, aSlab c (k : Int) = (j : Int) ∧ j = 3 + c.ww.toNat + k ∧ j < L.length) := Lib.hid (fun k hk => slab_in h (by omega) (by omega))
  have hp := newPlan c hf
  rw [show nc c = c by rw [nc, if_pos h], h] at hp
  have HP := Lib.hid hp
  have HSZ := Lib.hid (Pl.size c hf)
  have ts : ((n : Int) != siz c) = false := by simp [hs]
  have HSA := Lib.hid (fun (k : Int) w => Pl.slab c hf k w)
  have HU := Lib.hid (fun w => Pk.unhead V hVr.1 hVr.2 w)
  obtain ⟨x, hx⟩ : ∃ x, x = V % 4294967296 - 1 := ⟨_, rfl⟩
  obtain ⟨u, hu⟩ : ∃ u, u = V / 4294967296 := ⟨_, rfl⟩
  rw [← hx, ← hu] at HU
  have tg : decide (0 ≤ x) = true := by unfold low32 at hz; simp; omega
  have HZ := Lib.hid hz
  clear hp h hs hc hL hsz hV hVr hc1 hg1 hVe hz hsp hx hu hnn hln
  go_enter Try.func34, Try.ntmps34
  go_wp2_with (first | (refine wpList_load_row rfl 24 _ rfl w.heap.size rfl _ (ccM c) (0, 0) _ (by exact C0) Try.underlying24 rfl (by kernel_rfl) ?_) | (refine wpList_load_row_w rfl 24 _ rfl w.heap.size rfl _ (ccM c) (0, 0) _ (by exact C0) Try.underlying24 rfl (by kernel_rfl) ?_))
  refine (HP.out _).mono ?_
  rintro en w1 ⟨rfl, hb1⟩
  have hw1 := hw0.trans (hb1.mono hw0.size)
  have P1 := Bk.new w1 (ccM c) 76
  have hw2 := hw1.alloc hw1.size (.cells (ccM c) 76)
  have C1 := (C0.keep hb1).alloc (.cells (ccM c) 76)
  clear hw0 hb1 C0 hw1
  go_wp2_with (first | (refine wpList_load_row rfl 76 _ rfl w1.heap.size rfl _ (ccM c) (0, 0) _ (by exact P1) Try.underlying76 rfl (by kernel_rfl) ?_) | (refine wpList_load_row_w rfl 76 _ rfl w1.heap.size rfl _ (ccM c) (0, 0) _ (by exact P1) Try.underlying76 rfl (by kernel_rfl) ?_))
  refine (HSZ.out _).mono ?_
  rintro en w3 ⟨rfl, hb3⟩
  have hw3 := hw2.trans (hb3.mono hw2.size)
  have P3 := P1.keep hb3
  clear P1 hb3 hw2 C1
  have hq := (hw3.cell (p := ⟨b0, off + 1, none⟩) hb0).trans HC1.out
  have x3 := P3.cells
  go_wp2_with fail
  refine (HU.out _).mono ?_
  rintro en w4 ⟨rfl, rfl⟩
  go_wp2
  go_ret
  exact ⟨by rw [HSP.out, spr_le (k := 0) (by rw [H0.out]; simpa using HZ.out) (Nat.zero_le _)]; rfl, hw3⟩
set_option maxRecDepth 10000 in
set_option maxHeartbeats 8000000 in
theorem spP_loop (c : Cfg) (hf : c.Wf) (n cap b0 off : Nat) (e : Int) (he : e < 18446744073709551616) (L : List Int) (hL : ∀ x ∈ L, 0 ≤ x ∧ x < 18446744073709551616) (h : chk c = 0) (hs : (n : Int) = siz c) (hln : L.length = n) (w : World) (hb0 : b0 < w.heap.size) (hc : ∀ i (hi : i < L.length), w.cell? ⟨b0, off + i, none⟩ = some (.int .u64 L[i])) (V : Int) (hVe : L.getD 1 0 = V) (hz : low32 V = 0) : Calls Try.prog 34 #[cv c, .slice (some ⟨b0, off, none⟩) n cap, .int .u64 e] w (RetB (.bool (spare c L e)) w) := by
  have C0 := Bk.new w (ccM c) 24
  have hw0 : Below w.heap.size w (w.alloc (.cells (ccM c) 24)) := (Below.refl _ _).alloc (Nat.le_refl _) _
  have hsz := siz_ge h
  have hn1 : (1 : Int) < (n : Int) := by omega
  have hn2 : 1 < L.length := by omega
  have hV : V = L[1] := by rw [← hVe, List.getD_eq_getElem?_getD, List.getElem?_eq_getElem hn2]; rfl
  have hVr : 0 ≤ V ∧ V < 18446744073709551616 := by rw [hV]; exact hL _ (List.getElem_mem hn2)
  have hc1 := hc 1 hn2
  rw [← hV] at hc1
  have hg1 : L.getD 1 0 = V := by rw [List.getD_eq_getElem?_getD, List.getElem?_eq_getElem hn2, hV]; rfl
  obtain ⟨nn, hnn⟩ : ∃ nn : Nat, c.sl = (nn : Int) := ⟨c.sl.toNat, by have := (chk_ok.1 h).sl; omega⟩
  have hn9 : nn ≤ 8 := by have := (chk_ok.1 h).sl; omega
  have hsp : spare c L e = sprB c L e nn := by rw [spr_yes h (by omega), hnn]; rfl
  have HSP := Lib.hid hsp
  have H0 := Lib.hid (show sprB c L e 0 = decide (low32 V ≠ 0) by rw [sprB, hg1])
  have HC := Lib.hid hc
  have HHL := Lib.hid hL
  have HC1 := Lib.hid hc1
  have HNN := Lib.hid hnn
  have HLN := Lib.hid hln
  have HIN : RowKit.Hid (∀ k : Nat, k < nn → ∃ j : Nat, aSlab c (k : Int) = (j : Int) ∧ j = 3 + c.ww.toNat + k ∧ j < L.length) := Lib.hid (fun k hk => slab_in h (by omega) (by omega))
  have hp := newPlan c hf
  rw [show nc c = c by rw [nc, if_pos h], h] at hp
  have HP := Lib.hid hp
  have HSZ := Lib.hid (Pl.size c hf)
  have ts : ((n : Int) != siz c) = false := by simp [hs]
  have HSA := Lib.hid (fun (k : Int) w => Pl.slab c hf k w)
  have HU := Lib.hid (fun w => Pk.unhead V hVr.1 hVr.2 w)
  obtain ⟨x, hx⟩ : ∃ x, x = V % 4294967296 - 1 := ⟨_, rfl⟩
  obtain ⟨u, hu⟩ : ∃ u, u = V / 4294967296 := ⟨_, rfl⟩
  rw [← hx, ← hu] at HU
  have tg : decide (0 ≤ x) = false := by unfold low32 at hz; simp; omega
  have HZ := Lib.hid hz
  clear hp h hs hc hL hsz hV hVr hc1 hg1 hVe hz hsp hx hu hnn hln
  go_enter Try.func34, Try.ntmps34
  go_wp2_with (first | (refine wpList_load_row rfl 24 _ rfl w.heap.size rfl _ (ccM c) (0, 0) _ (by exact C0) Try.underlying24 rfl (by kernel_rfl) ?_) | (refine wpList_load_row_w rfl 24 _ rfl w.heap.size rfl _ (ccM c) (0, 0) _ (by exact C0) Try.underlying24 rfl (by kernel_rfl) ?_))
  refine (HP.out _).mono ?_
  rintro en w1 ⟨rfl, hb1⟩
  have hw1 := hw0.trans (hb1.mono hw0.size)
  have P1 := Bk.new w1 (ccM c) 76
  have hw2 := hw1.alloc hw1.size (.cells (ccM c) 76)
  have C1 := (C0.keep hb1).alloc (.cells (ccM c) 76)
  clear hw0 hb1 C0 hw1
  go_wp2_with (first | (refine wpList_load_row rfl 76 _ rfl w1.heap.size rfl _ (ccM c) (0, 0) _ (by exact P1) Try.underlying76 rfl (by kernel_rfl) ?_) | (refine wpList_load_row_w rfl 76 _ rfl w1.heap.size rfl _ (ccM c) (0, 0) _ (by exact P1) Try.underlying76 rfl (by kernel_rfl) ?_))
  refine (HSZ.out _).mono ?_
  rintro en w3 ⟨rfl, hb3⟩
  have hw3 := hw2.trans (hb3.mono hw2.size)
  have P3 := P1.keep hb3
  clear P1 hb3 hw2 C1
  have hq := (hw3.cell (p := ⟨b0, off + 1, none⟩) hb0).trans HC1.out
  have x3 := P3.cells
  go_wp2_with fail
  refine (HU.out _).mono ?_
  rintro en w4 ⟨rfl, rfl⟩
  have hsl : (ccM c)[1]? = some (.int .i64 c.sl) := rfl
  go_wp2
  clear x3 hq
  go_loopw [38] (fun i wr => ∃ k : Nat, k ≤ nn ∧ i = .int .i64 k ∧ sprB c L e k = false ∧ Bk wr w1.heap.size (ccM c) 76 ∧ Below w.heap.size w wr) (fun i _ => nn - (intOf i).toNat)
  case atStart => exact ⟨0, by omega, rfl, by rw [H0.out]; simpa using HZ.out, P3, hw3⟩
  case round =>
    clear P3 hw3
    obtain ⟨k, hk, rfl, hno, P, hw⟩ := hrel
    have HNO := Lib.hid hno
    clear hno
    have hsum : IntKind.i64.wrap ((k : Int) + 1) = (k : Int) + 1 := IntWalk.i64_in _ (by omega)
    by_cases hlt : k < nn
    · have hd : decide ((k : Int) < c.sl) = true := by have := HNN.out; simp; omega
      obtain ⟨j, hj, hj2, hjl⟩ := HIN.out k hlt
      obtain ⟨v, hv⟩ : ∃ v, v = L[j] := ⟨_, rfl⟩
      have hvr : 0 ≤ v ∧ v < 18446744073709551616 := by rw [hv]; exact HHL.out _ (List.getElem_mem hjl)
      have hcj := HC.out j hjl
      rw [← hv] at hcj
      have hgj : L.getD (3 + c.ww.toNat + k) 0 = v := by rw [← hj2, List.getD_eq_getElem?_getD, List.getElem?_eq_getElem hjl, hv]; rfl
      have hst : sprB c L e (k + 1) = rdyB v e := by rw [sprB, HNO.out, hgj]; rfl
      obtain ⟨q, hqq⟩ : ∃ q, rdyB v e = q := ⟨_, rfl⟩
      have HRD : RowKit.Hid (∀ w, Calls Try.prog 83 #[.int .u64 v, .int .u64 e] w (RetB (.bool q) w)) := Lib.hid (fun w => hqq ▸ ready v e hvr.1 hvr.2 he w)
      rw [hqq] at hst
      have HST := Lib.hid hst
      have HCJ := Lib.hid hcj
      have HA := Lib.hid (fun w => hj ▸ HSA.out (k : Int) w)
      have hjn : (j : Int) < (n : Int) := by have := HLN.out; omega
      clear hj hj2 hv hvr hcj hgj hst hqq
      go_wp2_with (first | (refine wpList_load_row rfl 76 _ rfl w1.heap.size rfl _ (ccM c) (0, 0) _ (by exact P) Try.underlying76 rfl (by kernel_rfl) ?_) | (refine wpList_load_row_w rfl 76 _ rfl w1.heap.size rfl _ (ccM c) (0, 0) _ (by exact P) Try.underlying76 rfl (by kernel_rfl) ?_))
      refine (HA.out _).mono ?_
      rintro en w5 ⟨rfl, hb5⟩
      have P5 := P.keep hb5
      have hw5 := hw.trans (hb5.mono hw.size)
      have hq5 := (hw5.cell (p := ⟨b0, off + j, none⟩) hb0).trans HCJ.out
      clear P hw hb5
      go_wp2_with fail
      refine (HRD.out _).mono ?_
      rintro en w6 ⟨rfl, hb6⟩
      have P6 := P5.keep hb6
      have hw6 := hw5.trans (hb6.mono hw5.size)
      clear P5 hw5 hb6 hq5
      cases q
      · go_wp2
        go_roundw
        case rel => exact ⟨k + 1, by omega, by go_num, HST.out, P6, hw6⟩
        case measure => simp [intOf]; omega
      · go_wp2
        go_ret
        exact ⟨by rw [HSP.out, spr_le HST.out (by omega)]; rfl, hw6⟩
    · obtain rfl : nn = k := by omega
      have hd : decide ((nn : Int) < c.sl) = false := by have := HNN.out; simp; omega
      go_wp2
      go_ret
      exact ⟨by rw [HSP.out, HNO.out]; rfl, hw⟩
set_option maxRecDepth 10000 in
set_option maxHeartbeats 8000000 in
theorem spR_bad (c : Cfg) (hf : c.Wf) (ad : Option Addr) (n cap : Nat) (e : Int) (h : chk c ≠ 0) (w : World) : Calls Try.prog 35 #[cv c, .slice ad n cap, .int .u64 e] w (RetB (.bool false) w) := by
  have C0 := Bk.new w (ccM c) 24
  have hw0 : Below w.heap.size w (w.alloc (.cells (ccM c) 24)) := (Below.refl _ _).alloc (Nat.le_refl _) _
  have HK := Lib.hid (refCheck c hf)
  have hne : (chk c != 0) = true := by simp [h]
  clear h
  go_enter Try.func35, Try.ntmps35
  go_wp2_with (first | (refine wpList_load_row rfl 24 _ rfl w.heap.size rfl _ (ccM c) (0, 0) _ (by exact C0) Try.underlying24 rfl (by kernel_rfl) ?_) | (refine wpList_load_row_w rfl 24 _ rfl w.heap.size rfl _ (ccM c) (0, 0) _ (by exact C0) Try.underlying24 rfl (by kernel_rfl) ?_))
  refine (HK.out _).mono ?_
  rintro en w1 ⟨rfl, hb1⟩
  have hw1 := hw0.trans (hb1.mono hw0.size)
  have C1 := C0.keep hb1
  clear hw0 hb1 C0
  go_wp2
  go_ret
  exact ⟨rfl, hw1⟩
set_option maxRecDepth 10000 in
set_option maxHeartbeats 8000000 in
theorem spR_len (c : Cfg) (hf : c.Wf) (ad : Option Addr) (n cap : Nat) (e : Int) (h : chk c = 0) (hs : (n : Int) ≠ siz c) (w : World) : Calls Try.prog 35 #[cv c, .slice ad n cap, .int .u64 e] w (RetB (.bool false) w) := by
  have C0 := Bk.new w (ccM c) 24
  have hw0 : Below w.heap.size w (w.alloc (.cells (ccM c) 24)) := (Below.refl _ _).alloc (Nat.le_refl _) _
  have HK := Lib.hid (fun w => h ▸ refCheck c hf w)
  have HA := Lib.hid (refAll c (chk_ok.1 h))
  have HSL := Lib.hid (spots_len (chk_ok.1 h))
  have HS := Lib.hid hs
  clear hs
  go_enter Try.func35, Try.ntmps35
  go_wp2_with (first | (refine wpList_load_row rfl 24 _ rfl w.heap.size rfl _ (ccM c) (0, 0) _ (by exact C0) Try.underlying24 rfl (by kernel_rfl) ?_) | (refine wpList_load_row_w rfl 24 _ rfl w.heap.size rfl _ (ccM c) (0, 0) _ (by exact C0) Try.underlying24 rfl (by kernel_rfl) ?_))
  refine (HK.out _).mono ?_
  rintro en w1 ⟨rfl, hb1⟩
  have hw1 := hw0.trans (hb1.mono hw0.size)
  have C1 := C0.keep hb1
  clear hw0 hb1 C0
  go_wp2_with (first | (refine wpList_load_row rfl 24 _ rfl w.heap.size rfl _ (ccM c) (0, 0) _ (by exact C1) Try.underlying24 rfl (by kernel_rfl) ?_) | (refine wpList_load_row_w rfl 24 _ rfl w.heap.size rfl _ (ccM c) (0, 0) _ (by exact C1) Try.underlying24 rfl (by kernel_rfl) ?_))
  refine (HA.out _).mono ?_
  rintro en w2 ⟨z, rfl, hz, hb2⟩
  obtain ⟨y, rfl, hyl⟩ := owns_slI hz
  have hw2 := hw1.trans (hb2.mono hw1.size)
  have C2 := C1.keep hb2
  have x2 := C2.cells
  have hne : ((n : Int) != (y.len : Int)) = true := by have := HS.out; have := HSL.out; simp; omega
  clear hz hb2 C1 hw1 hyl
  go_wp2
  go_ret
  exact ⟨rfl, hw2⟩
set_option maxRecDepth 10000 in
set_option maxHeartbeats 8000000 in
theorem spR_main (c : Cfg) (hf : c.Wf) (n cap b0 off : Nat) (e : Int) (he : e < 18446744073709551616) (L : List Int) (hL : ∀ x ∈ L, 0 ≤ x ∧ x < 18446744073709551616) (h : chk c = 0) (hs : (n : Int) = siz c) (hln : L.length = n) (w : World) (hb0 : b0 < w.heap.size) (hc : ∀ i (hi : i < L.length), w.cell? ⟨b0, off + i, none⟩ = some (.int .u64 L[i])) (hrd : Reads w .u64 (.slice (some ⟨b0, off, none⟩) n cap) L) : Calls Try.prog 35 #[cv c, .slice (some ⟨b0, off, none⟩) n cap, .int .u64 e] w (RetB (.bool (spare c L e)) w) := by
  have C0 := Bk.new w (ccM c) 24
  have hw0 : Below w.heap.size w (w.alloc (.cells (ccM c) 24)) := (Below.refl _ _).alloc (Nat.le_refl _) _
  have hsz := siz_ge h
  have hn1 : (1 : Int) < (n : Int) := by omega
  have hn2 : 1 < L.length := by omega
  obtain ⟨V, hV⟩ : ∃ V, V = L[1] := ⟨_, rfl⟩
  have hVr : 0 ≤ V ∧ V < 18446744073709551616 := by rw [hV]; exact hL _ (List.getElem_mem hn2)
  have hc1 := hc 1 hn2
  rw [← hV] at hc1
  have hg1 : L.getD 1 0 = V := by rw [List.getD_eq_getElem?_getD, List.getElem?_eq_getElem hn2, hV]; rfl
  obtain ⟨nn, hnn⟩ : ∃ nn : Nat, c.sl = (nn : Int) := ⟨c.sl.toNat, by have := (chk_ok.1 h).sl; omega⟩
  have hn9 : nn ≤ 8 := by have := (chk_ok.1 h).sl; omega
  have hsp : spare c L e = sprB c L e nn := by rw [spr_yes h (by omega), hnn]; rfl
  have HSP := Lib.hid hsp
  have H0 := Lib.hid (show sprB c L e 0 = decide (low32 V ≠ 0) by rw [sprB, hg1])
  have HC := Lib.hid hc
  have HHL := Lib.hid hL
  have HC1 := Lib.hid hc1
  have HNN := Lib.hid hnn
  have HLN := Lib.hid hln
  have HIN : RowKit.Hid (∀ k : Nat, k < nn → ∃ j : Nat, aSlab c (k : Int) = (j : Int) ∧ j = 3 + c.ww.toNat + k ∧ j < L.length) := Lib.hid (fun k hk => slab_in h (by omega) (by omega))
  have HK := Lib.hid (fun w => h ▸ refCheck c hf w)
  have HA := Lib.hid (refAll c (chk_ok.1 h))
  have HSL := Lib.hid (spots_len (chk_ok.1 h))
  have HS := Lib.hid hs
  have HLW := Lib.hid (fun w => rLow32 V hVr w)
  obtain ⟨x, hx⟩ : ∃ x, x = low32 V := ⟨_, rfl⟩
  rw [← hx] at HLW H0
  obtain ⟨p, hp⟩ : ∃ p, p = decide (x ≠ 0) := ⟨_, rfl⟩
  have tx : (x != 0) = p := by rw [hp]; by_cases h : x = 0 <;> simp [h]
  rw [← hp] at H0
  have HW : RowKit.Hid (∀ (w' : World), Below w.heap.size w w' → ∀ k : Nat, k < nn → ∀ v, v = L.getD (3 + c.ww.toNat + k) 0 → Calls Try.prog 85 #[cv c, .slice (some ⟨b0, off, none⟩) n cap, .int .i64 (k : Int)] w' (RetB (.tuple #[.int .u64 v, .bool true]) w')) := Lib.hid (fun w' hb k hk v hv => by
    have hy := wrd_yes (c := c) (L := L) (k := (k : Int)) ⟨h, by omega, by omega, by omega⟩
    have := rword c hf (v := ⟨some ⟨b0, off, none⟩, n, cap⟩) (hrd.keep hb) hL (k : Int)
    unfold WrdPost at this
    rw [hy.1, hy.2] at this
    rw [hv]
    exact this)
  clear h hs hc hL hsz hV hVr hc1 hg1 hx hp hsp hnn hln
  go_enter Try.func35, Try.ntmps35
  go_wp2_with (first | (refine wpList_load_row rfl 24 _ rfl w.heap.size rfl _ (ccM c) (0, 0) _ (by exact C0) Try.underlying24 rfl (by kernel_rfl) ?_) | (refine wpList_load_row_w rfl 24 _ rfl w.heap.size rfl _ (ccM c) (0, 0) _ (by exact C0) Try.underlying24 rfl (by kernel_rfl) ?_))
  refine (HK.out _).mono ?_
  rintro en w1 ⟨rfl, hb1⟩
  have hw1 := hw0.trans (hb1.mono hw0.size)
  have C1 := C0.keep hb1
  clear hw0 hb1 C0
  go_wp2_with (first | (refine wpList_load_row rfl 24 _ rfl w.heap.size rfl _ (ccM c) (0, 0) _ (by exact C1) Try.underlying24 rfl (by kernel_rfl) ?_) | (refine wpList_load_row_w rfl 24 _ rfl w.heap.size rfl _ (ccM c) (0, 0) _ (by exact C1) Try.underlying24 rfl (by kernel_rfl) ?_))
  refine (HA.out _).mono ?_
  rintro en w2 ⟨z, rfl, hz, hb2⟩
  obtain ⟨y, rfl, hyl⟩ := owns_slI hz
  have hw2 := hw1.trans (hb2.mono hw1.size)
  have C2 := C1.keep hb2
  have hne : ((n : Int) != (y.len : Int)) = false := by have := HS.out; have := HSL.out; simp; omega
  have hq := (hw2.cell (p := ⟨b0, off + 1, none⟩) hb0).trans HC1.out
  clear hz hb2 C1 hw1 hyl
  go_wp2_with fail
  refine (HLW.out _).mono ?_
  rintro en w4 ⟨rfl, rfl⟩
  go_wp2
  clear hq hne tx
  have hsl : (ccM c)[1]? = some (.int .i64 c.sl) := rfl
  go_loopw [7, 8] (fun b i wr => ∃ k : Nat, k ≤ nn ∧ b = .bool (sprB c L e k) ∧ i = .int .i64 k ∧ Bk wr w.heap.size (ccM c) 24 ∧ Below w.heap.size w wr) (fun _ i _ => nn - (intOf i).toNat)
  case atStart => exact ⟨0, by omega, by rw [H0.out], rfl, C2, hw2⟩
  case round =>
    clear C2 hw2
    obtain ⟨k, hk, rfl, rfl, C, hw⟩ := hrel
    have hsum : IntKind.i64.wrap ((k : Int) + 1) = (k : Int) + 1 := IntWalk.i64_in _ (by omega)
    have xx := C.cells
    by_cases hlt : k < nn
    · have hd : decide ((k : Int) < c.sl) = true := by have := HNN.out; simp; omega
      obtain ⟨j, hj, hj2, hjl⟩ := HIN.out k hlt
      obtain ⟨v, hv⟩ : ∃ v, v = L.getD (3 + c.ww.toNat + k) 0 := ⟨_, rfl⟩
      have hvr : 0 ≤ v ∧ v < 18446744073709551616 := by rw [hv]; exact getD_range HHL.out _
      obtain ⟨b, hb⟩ : ∃ b, b = sprB c L e k := ⟨_, rfl⟩
      obtain ⟨q, hqq⟩ : ∃ q, rdyB v e = q := ⟨_, rfl⟩
      have HRD : RowKit.Hid (∀ w, Calls Try.prog 86 #[.int .u64 v, .int .u64 e] w (RetB (.bool q) w)) := Lib.hid (fun w => hqq ▸ rready v e hvr.1 hvr.2 he w)
      have HST := Lib.hid (show sprB c L e (k + 1) = (b || q) by rw [sprB, ← hb, ← hv, hqq])
      have HWK := Lib.hid (HW.out _ hw k hlt v hv)
      rw [← hb]
      clear hj hj2 hv hvr hqq hb hjl
      go_wp2_with (first | (refine wpList_load_row rfl 24 _ rfl w.heap.size rfl _ (ccM c) (0, 0) _ (by exact C) Try.underlying24 rfl (by kernel_rfl) ?_) | (refine wpList_load_row_w rfl 24 _ rfl w.heap.size rfl _ (ccM c) (0, 0) _ (by exact C) Try.underlying24 rfl (by kernel_rfl) ?_))
      refine HWK.out.mono ?_
      rintro en w5 ⟨rfl, hb5⟩
      have C5 := C.keep hb5
      have hw5 := hw.trans (hb5.mono hw.size)
      clear C hw hb5 xx HWK
      cases b
      · go_wp2_with fail
        refine (HRD.out _).mono ?_
        rintro en w6 ⟨rfl, hb6⟩
        have C6 := C5.keep hb6
        have hw6 := hw5.trans (hb6.mono hw5.size)
        clear C5 hw5 hb6
        go_wp2
        go_roundw
        case rel => exact ⟨k + 1, by omega, by rw [HST.out]; rfl, by go_num, C6, hw6⟩
        case measure => simp [intOf]; omega
      · go_wp2
        go_roundw
        case rel => exact ⟨k + 1, by omega, by rw [HST.out]; rfl, by go_num, C5, hw5⟩
        case measure => simp [intOf]; omega
    · obtain rfl : nn = k := by omega
      have hd : decide ((nn : Int) < c.sl) = false := by have := HNN.out; simp; omega
      go_wp2
      go_ret
      exact ⟨by rw [HSP.out]; rfl, hw⟩
/-- The ways of both, at one input. -/
theorem spare_ways {c : Cfg} {L : List Int} {v : Sl} {w : World} (hr : Reads w .u64 v.v L) :
    (chk c ≠ 0) ∨ (chk c = 0 ∧ (v.len : Int) ≠ siz c) ∨ (chk c = 0 ∧ (v.len : Int) = siz c ∧ L.length = v.len ∧ ∃ b0 off, v.ad = some ⟨b0, off, none⟩ ∧ b0 < w.heap.size ∧ ∀ i (hi : i < L.length), w.cell? ⟨b0, off + i, none⟩ = some (.int .u64 L[i])) := by
  by_cases h : chk c = 0
  · by_cases hs : (v.len : Int) = siz c
    · refine .inr (.inr ⟨h, hs, ?_⟩)
      have hln := reads_len hr
      have hz := siz_ge h
      refine ⟨by omega, ?_⟩
      obtain ⟨ad, cap, e, _, _, h3⟩ := hr
      rcases h3 with rfl | ⟨b0, off, rfl, hb0, hc⟩
      · simp at hln; omega
      · obtain ⟨va, vl, vc⟩ := v
        simp only [Sl.v, Value.slice.injEq] at e
        exact ⟨b0, off, e.1, hb0, hc⟩
    · exact .inr (.inl ⟨h, hs⟩)
  · exact .inl h
theorem spareP (c : Cfg) (hf : c.Wf) {L : List Int} {v : Sl} {w : World} (hr : Reads w .u64 v.v L) (hL : ∀ x ∈ L, 0 ≤ x ∧ x < 18446744073709551616) (e : Int) (he : e < 18446744073709551616) : Calls Try.prog 34 #[cv c, v.v, .int .u64 e] w (RetB (.bool (spare c L e)) w) := by
  have hln := reads_len hr
  rcases spare_ways (c := c) hr with h | ⟨h, hs⟩ | ⟨h, hs, hl, b0, off, had, hb0, hc⟩
  · rw [spr_no (fun q => h q.1)]
    exact spP_bad c hf _ _ _ e h w
  · rw [spr_no (fun q => hs (by rw [hln]; exact q.2))]
    exact spP_len c hf _ _ _ e h hs w
  · obtain ⟨va, vl, vc⟩ := v
    simp only at had hs hl
    subst had
    by_cases hz : low32 (L.getD 1 0) = 0
    · exact spP_loop c hf vl vc b0 off e he L hL h hs hl w hb0 hc _ rfl hz
    · exact spP_head c hf vl vc b0 off e he L hL h hs hl w hb0 hc _ rfl hz
theorem spareR (c : Cfg) (hf : c.Wf) {L : List Int} {v : Sl} {w : World} (hr : Reads w .u64 v.v L) (hL : ∀ x ∈ L, 0 ≤ x ∧ x < 18446744073709551616) (e : Int) (he : e < 18446744073709551616) : Calls Try.prog 35 #[cv c, v.v, .int .u64 e] w (RetB (.bool (spare c L e)) w) := by
  have hln := reads_len hr
  rcases spare_ways (c := c) hr with h | ⟨h, hs⟩ | ⟨h, hs, hl, b0, off, had, hb0, hc⟩
  · rw [spr_no (fun q => h q.1)]
    exact spR_bad c hf _ _ _ e h w
  · rw [spr_no (fun q => hs (by rw [hln]; exact q.2))]
    exact spR_len c hf _ _ _ e h hs w
  · obtain ⟨va, vl, vc⟩ := v
    simp only at had hs hl
    subst had
    exact spR_main c hf vl vc b0 off e he L hL h hs hl w hb0 hc hr
end Go.Proofs.Ytblkfbbdeodpjaa.Me
