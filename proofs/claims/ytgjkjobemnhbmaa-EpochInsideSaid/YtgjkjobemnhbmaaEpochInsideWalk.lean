/- The law EpochInside (made by genei.py). -/
import Derived.Test.YtgjkjobemnhbmaaEpochAwake
namespace Go.Proofs.Ytgjkjobemnhbmaa.Me
open Go Go.RowKit Go.Proofs.Ytgjkjobemnhbmaa.Gro Go.Proofs.Ytgjkjobemnhbmaa.Own Go.Proofs.Ytgjkjobemnhbmaa.Wd Go.Proofs.Ytgjkjobemnhbmaa.Ap Go.Proofs.Ytgjkjobemnhbmaa.Pl Go.Proofs.Ytgjkjobemnhbmaa.Wo
set_option linter.unusedVariables false
set_option linter.unusedSimpArgs false
theorem neq_word (n : Int) : (n != n) = false := by simp
theorem neq_bool (b : Bool) : (b != b) = false := by cases b <;> rfl
theorem eql_word (n : Int) : (n == n) = true := by simp
theorem eql_bool (b : Bool) : (b == b) = true := by cases b <;> rfl
set_option maxRecDepth 10000 in
set_option maxHeartbeats 8000000 in
theorem ei_great (c : Cfg) (hf : c.Wf) (ad : Option Addr) (n cap : Nat) (k0 : Int) (hg : greatC c = true) (w : World) : Calls Try.prog 6 #[cv c, .slice ad n cap, .int .i64 k0] w fun e w' => e = .returned (.bool true) ∧ Below w.heap.size w w' := by
  have C0 := Bk.new w (ccM c) 24
  have hw0 : Below w.heap.size w (w.alloc (.cells (ccM c) 24)) := (Below.refl _ _).alloc (Nat.le_refl _) _
  have HG := Lib.hid (fun w => hg ▸ greatMem c hf w)
  go_enter Try.func6, Try.ntmps6
  go_wp2_with fail
  refine (awake7 _).mono ?_
  rintro e w1 ⟨rfl, hb1⟩
  have C1 := C0.keep hb1
  have hw1 := hw0.trans (hb1.mono hw0.size)
  clear C0 hw0 hb1
  go_wp2_with (refine wpList_load_row rfl 24 _ rfl w.heap.size rfl _ (ccM c) (0, 0) _ (by exact C1) Try.underlying24 rfl (by kernel_rfl) ?_)
  refine (HG.out _).mono ?_
  rintro e w2 ⟨rfl, hb2⟩
  have C2 := C1.keep hb2
  have hw2 := hw1.trans (hb2.mono hw1.size)
  clear C1 hw1 hb2 HG
  go_wp2
  go_ret
  exact ⟨rfl, hw2⟩
set_option maxRecDepth 10000 in
set_option maxHeartbeats 8000000 in
theorem ei_long (c : Cfg) (hf : c.Wf) (ad : Option Addr) (n cap : Nat) (k0 : Int) (hg : greatC c = false) (hn : 400 < n) (hm : n ≤ 9223372036854775807) (w : World) : Calls Try.prog 6 #[cv c, .slice ad n cap, .int .i64 k0] w fun e w' => e = .returned (.bool true) ∧ Below w.heap.size w w' := by
  have C0 := Bk.new w (ccM c) 24
  have hw0 : Below w.heap.size w (w.alloc (.cells (ccM c) 24)) := (Below.refl _ _).alloc (Nat.le_refl _) _
  have HG := Lib.hid (fun w => hg ▸ greatMem c hf w)
  go_enter Try.func6, Try.ntmps6
  go_wp2_with fail
  refine (awake7 _).mono ?_
  rintro e w1 ⟨rfl, hb1⟩
  have C1 := C0.keep hb1
  have hw1 := hw0.trans (hb1.mono hw0.size)
  clear C0 hw0 hb1
  go_wp2_with (refine wpList_load_row rfl 24 _ rfl w.heap.size rfl _ (ccM c) (0, 0) _ (by exact C1) Try.underlying24 rfl (by kernel_rfl) ?_)
  refine (HG.out _).mono ?_
  rintro e w2 ⟨rfl, hb2⟩
  have C2 := C1.keep hb2
  have hw2 := hw1.trans (hb2.mono hw1.size)
  clear C1 hw1 hb2 HG
  have d1 : decide ((400 : Int) < (n : Int)) = true := by simp; omega
  go_wp2
  go_ret
  exact ⟨rfl, hw2⟩
set_option maxRecDepth 10000 in
set_option maxHeartbeats 8000000 in
theorem ei_bad (c : Cfg) (hf : c.Wf) (ad : Option Addr) (n cap : Nat) (k0 : Int) (hg : greatC c = false) (hn : n ≤ 400) (L : List Int) (hL : ∀ x ∈ L, 0 ≤ x ∧ x < 18446744073709551616) (hk : chk c ≠ 0) (w : World) (hr : Reads w .u64 (.slice ad n cap) L) : Calls Try.prog 6 #[cv c, .slice ad n cap, .int .i64 k0] w fun e w' => e = .returned (.bool true) ∧ Below w.heap.size w w' := by
  have C0 := Bk.new w (ccM c) 24
  have hw0 : Below w.heap.size w (w.alloc (.cells (ccM c) 24)) := (Below.refl _ _).alloc (Nat.le_refl _) _
  have HG := Lib.hid (fun w => hg ▸ greatMem c hf w)
  have HI := Lib.hid (fun (k : Int) (w' : World) (hb : Below w.heap.size w w') => inside c hf (v := ⟨ad, n, cap⟩) (hr.keep hb) hL k)
  have HR := Lib.hid (fun (k : Int) (w' : World) (hb : Below w.heap.size w w') => rinside c hf (v := ⟨ad, n, cap⟩) (hr.keep hb) hL k)
  have HLE := Lib.hid (fun (w' : World) (hb : Below w.heap.size w w') => least c hf (v := ⟨ad, n, cap⟩) (hr.keep hb) hL)
  have d1 : decide ((400 : Int) < (n : Int)) = false := by simp; omega
  have HCH := Lib.hid (refCheck c hf)
  have hne : (chk c == 0) = false := by simp [hk]
  have HST : RowKit.Hid (leastL c L 8 = (0, false)) := Lib.hid (least_stay (c := c) (L := L) (n := 0) (fun k _ => (ins_no (fun q => hk q.1)).1) 8)
  clear hk hf
  clear hr hL
  go_enter Try.func6, Try.ntmps6
  go_wp2_with fail
  refine (awake7 _).mono ?_
  rintro e w1 ⟨rfl, hb1⟩
  have C1 := C0.keep hb1
  have hw1 := hw0.trans (hb1.mono hw0.size)
  clear C0 hw0 hb1
  go_wp2_with (refine wpList_load_row rfl 24 _ rfl w.heap.size rfl _ (ccM c) (0, 0) _ (by exact C1) Try.underlying24 rfl (by kernel_rfl) ?_)
  refine (HG.out _).mono ?_
  rintro e w2 ⟨rfl, hb2⟩
  have C2 := C1.keep hb2
  have hw2 := hw1.trans (hb2.mono hw1.size)
  clear C1 hw1 hb2 HG
  obtain ⟨b0, hb0⟩ : ∃ b, insB c L k0 = b := ⟨_, rfl⟩
  obtain ⟨n0, hn0⟩ : ∃ n, insE c L k0 = n := ⟨_, rfl⟩
  have i1 := HI.out k0 w2 hw2
  have HR0 := Lib.hid (HR.out k0)
  unfold InsPost at i1
  rw [hb0, hn0] at i1
  have HI1 := Lib.hid i1
  clear i1 HI
  have hq1 := neq_word n0
  have hq2 := neq_bool b0
  go_wp2_with (refine wpList_load_row rfl 24 _ rfl w.heap.size rfl _ (ccM c) (0, 0) _ (by exact C2) Try.underlying24 rfl (by kernel_rfl) ?_)
  refine HI1.out.mono ?_
  rintro e w3 ⟨rfl, hb3⟩
  have C3 := C2.keep hb3
  have hw3 := hw2.trans (hb3.mono hw2.size)
  clear C2 hw2 hb3 HI1
  have i2 := HR0.out w3 hw3
  unfold InsPost at i2
  rw [hb0, hn0] at i2
  have HI2 := Lib.hid i2
  clear i2 HR0 hb0 hn0
  go_wp2_with (refine wpList_load_row rfl 24 _ rfl w.heap.size rfl _ (ccM c) (0, 0) _ (by exact C3) Try.underlying24 rfl (by kernel_rfl) ?_)
  refine HI2.out.mono ?_
  rintro e w4 ⟨rfl, hb4⟩
  have C4 := C3.keep hb4
  have hw4 := hw3.trans (hb4.mono hw3.size)
  clear C3 hw3 hb4 HI2
  go_wp2
  refine wp_loop_rounds 1 ?_
  rw [rounds_succ]
  go_wp2_with (refine wpList_load_row rfl 24 _ rfl w.heap.size rfl _ (ccM c) (0, 0) _ (by exact C4) Try.underlying24 rfl (by kernel_rfl) ?_)
  refine (HCH.out _).mono ?_
  rintro e w5 ⟨rfl, hb5⟩
  have C5 := C4.keep hb5
  have hw5 := hw4.trans (hb5.mono hw4.size)
  clear C4 hw4 hb5
  have hz := HLE.out w5 hw5
  rw [HST.out] at hz
  have HZ := Lib.hid hz
  clear hz
  go_wp2_with (refine wpList_load_row rfl 24 _ rfl w.heap.size rfl _ (ccM c) (0, 0) _ (by exact C5) Try.underlying24 rfl (by kernel_rfl) ?_)
  refine HZ.out.mono ?_
  rintro e w9 ⟨rfl, hb9⟩
  have hw9 := hw5.trans (hb9.mono hw5.size)
  go_wp2
  go_ret
  exact ⟨rfl, hw9⟩
set_option maxRecDepth 10000 in
set_option maxHeartbeats 8000000 in
theorem ei_good (c : Cfg) (hf : c.Wf) (ad : Option Addr) (n cap : Nat) (k0 : Int) (hg : greatC c = false) (hn : n ≤ 400) (L : List Int) (hL : ∀ x ∈ L, 0 ≤ x ∧ x < 18446744073709551616) (hk : chk c = 0) (W0 : Nat) (hW : c.ww = (W0 : Int)) (hW8 : W0 ≤ 8) (w : World) (hr : Reads w .u64 (.slice ad n cap) L) : Calls Try.prog 6 #[cv c, .slice ad n cap, .int .i64 k0] w fun e w' => e = .returned (.bool true) ∧ Below w.heap.size w w' := by
  have C0 := Bk.new w (ccM c) 24
  have hw0 : Below w.heap.size w (w.alloc (.cells (ccM c) 24)) := (Below.refl _ _).alloc (Nat.le_refl _) _
  have HG := Lib.hid (fun w => hg ▸ greatMem c hf w)
  have HI := Lib.hid (fun (k : Int) (w' : World) (hb : Below w.heap.size w w') => inside c hf (v := ⟨ad, n, cap⟩) (hr.keep hb) hL k)
  have HR := Lib.hid (fun (k : Int) (w' : World) (hb : Below w.heap.size w w') => rinside c hf (v := ⟨ad, n, cap⟩) (hr.keep hb) hL k)
  have HLE := Lib.hid (fun (w' : World) (hb : Below w.heap.size w w') => least c hf (v := ⟨ad, n, cap⟩) (hr.keep hb) hL)
  have d1 : decide ((400 : Int) < (n : Int)) = false := by simp; omega
  have HCH := Lib.hid (fun w => hk ▸ refCheck c hf w)
  have HST : RowKit.Hid (leastL c L 8 = leastL c L W0) := Lib.hid (by
    have := least_stay (c := c) (L := L) (n := W0) (fun k hk' => (ins_no (fun q => by have := q.2.2.2.1; omega)).1) (8 - W0)
    rwa [show W0 + (8 - W0) = 8 by omega] at this)
  have HWW := Lib.hid hW
  clear hk hf hW
  clear hr hL
  go_enter Try.func6, Try.ntmps6
  go_wp2_with fail
  refine (awake7 _).mono ?_
  rintro e w1 ⟨rfl, hb1⟩
  have C1 := C0.keep hb1
  have hw1 := hw0.trans (hb1.mono hw0.size)
  clear C0 hw0 hb1
  go_wp2_with (refine wpList_load_row rfl 24 _ rfl w.heap.size rfl _ (ccM c) (0, 0) _ (by exact C1) Try.underlying24 rfl (by kernel_rfl) ?_)
  refine (HG.out _).mono ?_
  rintro e w2 ⟨rfl, hb2⟩
  have C2 := C1.keep hb2
  have hw2 := hw1.trans (hb2.mono hw1.size)
  clear C1 hw1 hb2 HG
  obtain ⟨b0, hb0⟩ : ∃ b, insB c L k0 = b := ⟨_, rfl⟩
  obtain ⟨n0, hn0⟩ : ∃ n, insE c L k0 = n := ⟨_, rfl⟩
  have i1 := HI.out k0 w2 hw2
  have HR0 := Lib.hid (HR.out k0)
  unfold InsPost at i1
  rw [hb0, hn0] at i1
  have HI1 := Lib.hid i1
  clear i1 HI
  have hq1 := neq_word n0
  have hq2 := neq_bool b0
  go_wp2_with (refine wpList_load_row rfl 24 _ rfl w.heap.size rfl _ (ccM c) (0, 0) _ (by exact C2) Try.underlying24 rfl (by kernel_rfl) ?_)
  refine HI1.out.mono ?_
  rintro e w3 ⟨rfl, hb3⟩
  have C3 := C2.keep hb3
  have hw3 := hw2.trans (hb3.mono hw2.size)
  clear C2 hw2 hb3 HI1
  have i2 := HR0.out w3 hw3
  unfold InsPost at i2
  rw [hb0, hn0] at i2
  have HI2 := Lib.hid i2
  clear i2 HR0 hb0 hn0
  go_wp2_with (refine wpList_load_row rfl 24 _ rfl w.heap.size rfl _ (ccM c) (0, 0) _ (by exact C3) Try.underlying24 rfl (by kernel_rfl) ?_)
  refine HI2.out.mono ?_
  rintro e w4 ⟨rfl, hb4⟩
  have C4 := C3.keep hb4
  have hw4 := hw3.trans (hb4.mono hw3.size)
  clear C3 hw3 hb4 HI2
  go_wp2
  go_loopw [11, 12, 13] (fun le so i wr => ∃ k : Nat, k ≤ W0 ∧ i = .int .i64 k ∧ le = .int .u64 (leastL c L k).1 ∧ so = .bool (leastL c L k).2 ∧ Bk wr w.heap.size (ccM c) 24 ∧ Below w.heap.size w wr) (fun _ _ i _ => W0 - (intOf i).toNat)
  case atStart => exact ⟨0, Nat.zero_le _, rfl, rfl, rfl, C4, hw4⟩
  case round =>
    clear C4 hw4
    obtain ⟨k, hkk, rfl, hle, hfo, C, hw⟩ := hrel
    have hsum : IntKind.i64.wrap ((k : Int) + 1) = (k : Int) + 1 := IntWalk.i64_in _ (by omega)
    obtain ⟨q, hq⟩ : ∃ q, leastL c L k = q := ⟨_, rfl⟩
    obtain ⟨le, fo⟩ := q
    rw [hq] at hle hfo
    subst hle
    subst hfo
    by_cases hlt : k < W0
    · have hd0 : decide ((k : Int) < c.ww) = true := by have := HWW.out; simp; omega
      go_wp2_with (refine wpList_load_row rfl 24 _ rfl w.heap.size rfl _ (ccM c) (0, 0) _ (by exact C) Try.underlying24 rfl (by kernel_rfl) ?_)
      refine (HCH.out _).mono ?_
      rintro e w6 ⟨rfl, hb6⟩
      have C6 := C.keep hb6
      have x6 := C6.cells
      have hw6 := hw.trans (hb6.mono hw.size)
      clear C hw hb6
      obtain ⟨ac, hac⟩ : ∃ ac, insB c L k = ac := ⟨_, rfl⟩
      obtain ⟨ep, hep⟩ : ∃ ep, insE c L k = ep := ⟨_, rfl⟩
      have HIN : RowKit.Hid (∀ w', Below w.heap.size w w' → Calls Try.prog 42 #[cv c, .slice ad n cap, .int .i64 k] w' (InsQ ep ac w')) := Lib.hid (fun w' hb => by have := HR.out k w' hb; unfold InsPost at this; rwa [hac, hep] at this)
      cases ac
      · cases fo
        · have HEQ : RowKit.Hid (leastL c L (k + 1) = (le, false)) := Lib.hid (by rw [least_no (fun q => by rw [hac] at q; cases q.1)]; exact hq)
          clear hq hac hep
          go_wp2_with (refine wpList_load_row rfl 24 _ rfl w.heap.size rfl _ (ccM c) (0, 0) _ (by exact C6) Try.underlying24 rfl (by kernel_rfl) ?_)
          refine (HIN.out _ hw6).mono ?_
          rintro e w7 ⟨rfl, hb7⟩
          have C7 := C6.keep hb7
          have hw7 := hw6.trans (hb7.mono hw6.size)
          clear C6 hw6 hb7 x6
          go_wp2
          go_roundw
          case rel => exact ⟨k + 1, by omega, by go_num, by rw [HEQ.out], by rw [HEQ.out], C7, hw7⟩
          case measure => simp [intOf]; omega
        · have HEQ : RowKit.Hid (leastL c L (k + 1) = (le, true)) := Lib.hid (by rw [least_no (fun q => by rw [hac] at q; cases q.1)]; exact hq)
          clear hq hac hep
          go_wp2_with (refine wpList_load_row rfl 24 _ rfl w.heap.size rfl _ (ccM c) (0, 0) _ (by exact C6) Try.underlying24 rfl (by kernel_rfl) ?_)
          refine (HIN.out _ hw6).mono ?_
          rintro e w7 ⟨rfl, hb7⟩
          have C7 := C6.keep hb7
          have hw7 := hw6.trans (hb7.mono hw6.size)
          clear C6 hw6 hb7 x6
          go_wp2
          go_roundw
          case rel => exact ⟨k + 1, by omega, by go_num, by rw [HEQ.out], by rw [HEQ.out], C7, hw7⟩
          case measure => simp [intOf]; omega
      · cases fo
        · have HEQ : RowKit.Hid (leastL c L (k + 1) = (ep, true)) := Lib.hid (by rw [least_yes hac (by rw [hq]; exact .inl rfl), hep])
          clear hq hac hep
          go_wp2_with (refine wpList_load_row rfl 24 _ rfl w.heap.size rfl _ (ccM c) (0, 0) _ (by exact C6) Try.underlying24 rfl (by kernel_rfl) ?_)
          refine (HIN.out _ hw6).mono ?_
          rintro e w7 ⟨rfl, hb7⟩
          have C7 := C6.keep hb7
          have hw7 := hw6.trans (hb7.mono hw6.size)
          clear C6 hw6 hb7 x6
          go_wp2
          go_roundw
          case rel => exact ⟨k + 1, by omega, by go_num, by rw [HEQ.out], by rw [HEQ.out], C7, hw7⟩
          case measure => simp [intOf]; omega
        · by_cases hlt2 : ep < le
          · have hd : decide (ep < le) = true := by simp; omega
            have HEQ : RowKit.Hid (leastL c L (k + 1) = (ep, true)) := Lib.hid (by rw [least_yes hac (by rw [hq]; exact .inr (by rw [hep]; omega)), hep])
            clear hq hac hep hlt2
            go_wp2_with (refine wpList_load_row rfl 24 _ rfl w.heap.size rfl _ (ccM c) (0, 0) _ (by exact C6) Try.underlying24 rfl (by kernel_rfl) ?_)
            refine (HIN.out _ hw6).mono ?_
            rintro e w7 ⟨rfl, hb7⟩
            have C7 := C6.keep hb7
            have hw7 := hw6.trans (hb7.mono hw6.size)
            clear C6 hw6 hb7 x6
            go_wp2
            go_roundw
            case rel => exact ⟨k + 1, by omega, by go_num, by rw [HEQ.out], by rw [HEQ.out], C7, hw7⟩
            case measure => simp [intOf]; omega
          · have hd : decide (ep < le) = false := by simp; omega
            have HEQ : RowKit.Hid (leastL c L (k + 1) = (le, true)) := Lib.hid (by rw [least_no (fun q => by have q2 := q.2; rw [hq, hep] at q2; rcases q2 with q2 | q2; cases q2; simp only at q2; omega)]; exact hq)
            clear hq hac hep hlt2
            go_wp2_with (refine wpList_load_row rfl 24 _ rfl w.heap.size rfl _ (ccM c) (0, 0) _ (by exact C6) Try.underlying24 rfl (by kernel_rfl) ?_)
            refine (HIN.out _ hw6).mono ?_
            rintro e w7 ⟨rfl, hb7⟩
            have C7 := C6.keep hb7
            have hw7 := hw6.trans (hb7.mono hw6.size)
            clear C6 hw6 hb7 x6
            go_wp2
            go_roundw
            case rel => exact ⟨k + 1, by omega, by go_num, by rw [HEQ.out], by rw [HEQ.out], C7, hw7⟩
            case measure => simp [intOf]; omega
    · obtain rfl : W0 = k := by omega
      have hd0 : decide ((W0 : Int) < c.ww) = false := by have := HWW.out; simp; omega
      go_wp2_with (refine wpList_load_row rfl 24 _ rfl w.heap.size rfl _ (ccM c) (0, 0) _ (by exact C) Try.underlying24 rfl (by kernel_rfl) ?_)
      refine (HCH.out _).mono ?_
      rintro e w6 ⟨rfl, hb6⟩
      have C6 := C.keep hb6
      have x6 := C6.cells
      have hw6 := hw.trans (hb6.mono hw.size)
      clear C hw hb6
      have hz := HLE.out w6 hw6
      rw [HST.out, hq] at hz
      have HZ := Lib.hid hz
      have hq3 := eql_word le
      have hq4 := eql_bool fo
      clear hz hq
      go_wp2_with (refine wpList_load_row rfl 24 _ rfl w.heap.size rfl _ (ccM c) (0, 0) _ (by exact C6) Try.underlying24 rfl (by kernel_rfl) ?_)
      refine HZ.out.mono ?_
      rintro e w9 ⟨rfl, hb9⟩
      have hw9 := hw6.trans (hb9.mono hw6.size)
      clear x6
      go_wp2
      go_ret
      exact ⟨rfl, hw9⟩
theorem epochInside (c : Cfg) (hf : c.Wf) (v : Sl) (k0 : Int) (L : List Int) (w : World) (hr : Reads w .u64 v.v L) (hL : ∀ x ∈ L, 0 ≤ x ∧ x < 18446744073709551616) :
    Calls Try.prog 6 #[cv c, v.v, .int .i64 k0] w fun e w' => e = .returned (.bool true) ∧ Below w.heap.size w w' := by
  have hle := reads_le hr
  obtain ⟨ad, n, cap⟩ := v
  simp only at hle
  unfold maxLen at hle
  cases hg : greatC c
  · by_cases hn : n ≤ 400
    · by_cases hk : chk c = 0
      · have hw := (chk_ok.1 hk).ww
        obtain ⟨W0, hW⟩ := Int.eq_ofNat_of_zero_le (a := c.ww) (by omega)
        exact ei_good c hf ad n cap k0 hg hn L hL hk W0 hW (by omega) w hr
      · exact ei_bad c hf ad n cap k0 hg hn L hL hk w hr
    · exact ei_long c hf ad n cap k0 hg (by omega) (by omega) w
  · exact ei_great c hf ad n cap k0 hg w
end Go.Proofs.Ytgjkjobemnhbmaa.Me
