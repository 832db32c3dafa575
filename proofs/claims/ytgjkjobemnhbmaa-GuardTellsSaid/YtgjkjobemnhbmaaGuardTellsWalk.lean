/- The law GuardTells (made by genguard3.py). -/
import Derived.Test.YtgjkjobemnhbmaaGuardClean
namespace Go.Proofs.Ytgjkjobemnhbmaa.Wo
open Go Go.RowKit Go.Proofs.Ytgjkjobemnhbmaa.Gro Go.Proofs.Ytgjkjobemnhbmaa.Own Go.Proofs.Ytgjkjobemnhbmaa.Wd Go.Proofs.Ytgjkjobemnhbmaa.Ap Go.Proofs.Ytgjkjobemnhbmaa.Pl Go.Proofs.Ytgjkjobemnhbmaa.Shp
set_option linter.unusedVariables false
set_option linter.unusedSimpArgs false
theorem guardTells_long (c : Cfg) (ad : Option Addr) (len cap : Nat) (v : Ev) (hl : 8 < len) (hm : len ≤ 9223372036854775807) (w : World) : Calls Try.prog 9 #[cv c, .slice ad len cap, .agg (ec v)] w fun e w' => e = .returned (.bool true) ∧ Below w.heap.size w w' := by
  have C0 := (Bk.new w (ccG c) 24).alloc (.cells (ec v) 94)
  have E0 := Bk.new (w.alloc (.cells (ccG c) 24)) (ec v) 94
  have hw0 : Below w.heap.size w ((w.alloc (.cells (ccG c) 24)).alloc (.cells (ec v) 94)) := ((Below.refl _ _).alloc (Nat.le_refl _) _).alloc (by simp) _
  rw [show (w.alloc (.cells (ccG c) 24)).heap.size = w.heap.size + 1 by simp] at E0
  go_enter Try.func9, Try.ntmps9
  go_wp2_with fail
  refine (awake18 _).mono ?_
  rintro e w1 ⟨rfl, hb1⟩
  have hw1 := hw0.trans (hb1.mono hw0.size)
  go_wp2
  go_ret
  exact ⟨rfl, hw1⟩
def Good (s : Wk) : Prop := 0 ≤ s.p.c ∧ s.p.c ≤ 60 ∧ 0 ≤ s.p.br ∧ s.p.br ≤ 60
set_option maxRecDepth 10000 in
set_option maxHeartbeats 16000000 in
theorem guardTells_short (c : Cfg) (hf : c.Wf) (ad : Option Addr) (len cap : Nat) (xs : List Wk) (v : Ev) (hl : len ≤ 8) (hx : xs.length = len) (w : World) (h : WReads w (.slice ad len cap) xs) : Calls Try.prog 9 #[cv c, .slice ad len cap, .agg (ec v)] w fun e w' => e = .returned (.bool true) ∧ Below w.heap.size w w' := by
  have C0 := (Bk.new w (ccG c) 24).alloc (.cells (ec v) 94)
  have E0 := Bk.new (w.alloc (.cells (ccG c) 24)) (ec v) 94
  have hw0 : Below w.heap.size w ((w.alloc (.cells (ccG c) 24)).alloc (.cells (ec v) 94)) := ((Below.refl _ _).alloc (Nat.le_refl _) _).alloc (by simp) _
  rw [show (w.alloc (.cells (ccG c) 24)).heap.size = w.heap.size + 1 by simp] at E0
  have HH := Lib.hid h
  have HX := Lib.hid hx
  clear h hx
  go_enter Try.func9, Try.ntmps9
  go_wp2_with fail
  refine (awake18 _).mono ?_
  rintro e w1 ⟨rfl, hb1⟩
  have C1 := C0.keep hb1
  have E1 := E0.keep hb1
  have hw1 := hw0.trans (hb1.mono hw0.size)
  clear C0 E0 hw0 hb1
  go_wp2
  go_loopw [7] (fun i wr => ∃ k : Nat, k ≤ len ∧ i = .int .i64 k ∧ (∀ j (h : j < xs.length), j < k → Good xs[j]) ∧ wr = w1) (fun i _ => len - (intOf i).toNat)
  case atStart => exact ⟨0, Nat.zero_le _, rfl, fun j h h' => by omega, rfl⟩
  case round =>
    obtain ⟨k, hk, rfl, hgood, rfl⟩ := hrel
    have HG := Lib.hid hgood
    clear hgood
    by_cases hlt : k < len
    · have hlt' : k < xs.length := by have := HX.out; omega
      obtain ⟨ad', cap', e0, _, _, h3⟩ := HH.out.keep hw1
      rcases h3 with h3 | ⟨b0, off, had, hb0, hc⟩
      · subst h3
        simp at hlt'
      simp only [Value.slice.injEq] at e0
      obtain ⟨e1, _, _⟩ := e0
      subst e1
      subst had
      have hr := hc k hlt'
      obtain ⟨s, hs⟩ : ∃ s, s = xs[k] := ⟨_, rfl⟩
      rw [← hs] at hr
      have HS := Lib.hid hs
      have q21 : wr.cell? ⟨b0, off + k * 33 + 21, none⟩ = some (.int .i64 s.p.c) := hr 21 _ rfl
      have q22 : wr.cell? ⟨b0, off + k * 33 + 22, none⟩ = some (.int .i64 s.p.br) := hr 22 _ rfl
      have hsum : IntKind.i64.wrap ((k : Int) + 1) = (k : Int) + 1 := IntWalk.i64_in _ (by omega)
      clear hr hc hs
      by_cases c1 : s.p.c < 0
      · have t1 : decide (s.p.c < 0) = true := by simp [c1]
        clear c1
        go_wp2
        go_ret
        exact ⟨rfl, hw1⟩
      · have t1 : decide (s.p.c < 0) = false := by simp [c1]
        by_cases c2 : 60 < s.p.c
        · have t2 : decide (60 < s.p.c) = true := by simp [c2]
          clear c1 c2
          go_wp2
          go_ret
          exact ⟨rfl, hw1⟩
        · have t2 : decide (60 < s.p.c) = false := by simp [c2]
          by_cases c3 : s.p.br < 0
          · have t3 : decide (s.p.br < 0) = true := by simp [c3]
            clear c1 c2 c3
            go_wp2
            go_ret
            exact ⟨rfl, hw1⟩
          · have t3 : decide (s.p.br < 0) = false := by simp [c3]
            by_cases c4 : 60 < s.p.br
            · have t4 : decide (60 < s.p.br) = true := by simp [c4]
              clear c1 c2 c3 c4
              go_wp2
              go_ret
              exact ⟨rfl, hw1⟩
            · have t4 : decide (60 < s.p.br) = false := by simp [c4]
              have HGS : RowKit.Hid (Good s) := Lib.hid ⟨by omega, by omega, by omega, by omega⟩
              clear c1 c2 c3 c4
              go_wp2
              go_roundw
              case rel => exact ⟨k + 1, by omega, by go_num, fun j hj h => by rcases Nat.lt_succ_iff_lt_or_eq.1 h with h | rfl; exact HG.out j hj h; rw [← HS.out]; exact HGS.out, by trivial⟩
              case measure => simp [intOf]; omega
    · obtain rfl : len = k := by omega
      have hv : ∀ s ∈ xs, s.p.c ≤ 60 ∧ s.p.br ≤ 60 := fun s hs => by
        obtain ⟨i, hi, rfl⟩ := List.getElem_of_mem hs
        have q := HG.out i hi (by have := HX.out; omega)
        exact ⟨q.2.1, q.2.2.2⟩
      have HV := Lib.hid hv
      have hxl : xs.length ≤ 400 := by have := HX.out; omega
      have HXL := Lib.hid hxl
      clear hv HG hlt hk hxl
      go_wp2_with fail
      refine (seen (v := ⟨ad, len, cap⟩) (HH.out.keep hw1) HXL.out HV.out).mono ?_
      rintro e w2 ⟨z, rfl, hz, hb2⟩
      have C2 := C1.keep hb2
      have E2 := E1.keep hb2
      have hw2 := hw1.trans (hb2.mono hw1.size)
      have hzl := reads_len hz
      have hsm : (sortL (sawL xs)).length ≤ 1000 := by
        have := sortL_len (sawL xs)
        have := sawL_len xs
        have := HXL.out
        omega
      have hrg : ∀ x ∈ sortL (sawL xs), 0 ≤ x ∧ x < 60 := fun x hx => saw_range HV.out x (sortL_mem.1 hx)
      have hlt0 := sortL_lt (sawL xs)
      have hmm : ∀ x, x ∈ sortL (sawL xs) ↔ x ∈ sawL xs := fun x => sortL_mem
      obtain ⟨S, hS⟩ : ∃ S, S = sortL (sawL xs) := ⟨_, rfl⟩
      rw [← hS] at hz hzl hsm hrg hlt0 hmm
      obtain ⟨zad, zlen, zcap⟩ := z
      simp only at hzl
      subst hzl
      have HZ := Lib.hid hz
      have HRG := Lib.hid hrg
      have HLT := Lib.hid hlt0
      have HMM := Lib.hid hmm
      clear hS hz hrg hlt0 hmm C1 E1 hw1 hb2
      simp only [Sl.v]
      go_wp2
      go_loopw [9, 10] (fun kk i wr => ∃ k b : Nat, b ≤ 60 ∧ kk = .int .i64 k ∧ i = .int .i64 b ∧ Cut S b k ∧ Below w2.heap.size w2 wr) (fun _ i _ => 60 - (intOf i).toNat)
      case atStart => exact ⟨0, 0, by omega, rfl, rfl, cut_start (fun x hx => (HRG.out x hx).1), Below.refl _ _⟩
      case round =>
        obtain ⟨k, b, hb60, rfl, rfl, hcut, hbr⟩ := hrel
        have HC := Lib.hid hcut
        clear hcut
        have hw3 := hw2.trans (hbr.mono hw2.size)
        have hsb : IntKind.i64.wrap ((b : Int) + 1) = (b : Int) + 1 := IntWalk.i64_in _ (by omega)
        by_cases hlt : b < 60
        · by_cases hm : (b : Int) ∈ sawL xs
          · have hse := fun w' (hb : Below w.heap.size w w') => seesL (v := ⟨ad, len, cap⟩) (HH.out.keep hb) HXL.out (b : Int) (by omega) (by omega)
            rw [decide_eq_true hm] at hse
            have HSE := Lib.hid hse
            have HM := Lib.hid hm
            clear hm hse
            obtain ⟨⟨hk, hkb⟩, hcut⟩ := cut_in HLT.out HC.out ((HMM.out _).2 HM.out)
            have HCU := Lib.hid hcut
            clear hcut
            go_wp2_with fail
            refine (HSE.out _ hw3).mono ?_
            rintro e w4 ⟨rfl, hb4⟩
            have hbr4 := hbr.trans (hb4.mono hbr.size)
            obtain ⟨bz, oz, hzad, hcell⟩ := reads_at (HZ.out.keep hbr4) hk
            simp only at hzad
            subst hzad
            rw [hkb] at hcell
            have hne : ((b : Int) != (b : Int)) = false := by simp
            have hsk : IntKind.i64.wrap ((k : Int) + 1) = (k : Int) + 1 := IntWalk.i64_in _ (by omega)
            clear hkb hbr hb4
            go_wp2
            go_roundw
            case rel => exact ⟨k + 1, b + 1, by omega, by go_num, by go_num, HCU.out, hbr4⟩
            case measure => simp [intOf]; omega
          · have hse := fun w' (hb : Below w.heap.size w w') => seesL (v := ⟨ad, len, cap⟩) (HH.out.keep hb) HXL.out (b : Int) (by omega) (by omega)
            rw [decide_eq_false hm] at hse
            have HSE := Lib.hid hse
            have HM := Lib.hid hm
            clear hm hse
            go_wp2_with fail
            refine (HSE.out _ hw3).mono ?_
            rintro e w4 ⟨rfl, hb4⟩
            have hbr4 := hbr.trans (hb4.mono hbr.size)
            go_wp2
            go_roundw
            case rel => exact ⟨k, b + 1, by omega, rfl, by go_num, cut_out HC.out (fun h => HM.out ((HMM.out _).1 h)), hbr4⟩
            case measure => simp [intOf]; omega
        · obtain rfl : b = 60 := by omega
          have hkS := cut_end HC.out (fun x hx => (HRG.out x hx).2)
          subst hkS
          have C3 := C2.keep hbr
          have E3 := E2.keep hbr
          clear hlt hbr HC
          go_wp2_with (first | (refine wpList_load_row rfl 24 _ rfl (w.heap.size) rfl _ (ccG c) (0, 0) _ (by exact C3) Try.underlying24 rfl (by kernel_rfl) ?_) | (refine wpList_load_row rfl 94 _ rfl (w.heap.size + 1) rfl _ (ec v) (0, 0) _ (by exact E3) Try.underlying94 rfl (by kernel_rfl) ?_))
          refine (written c hf v _).mono ?_
          rintro e w4 ⟨r, rfl, hr, hb4⟩
          have C4 := C3.keep hb4
          have E4 := E3.keep hb4
          have hw4 := hw3.trans (hb4.mono hw3.size)
          clear C3 E3 hw3 hb4
          go_wp2_with (first | (refine wpList_load_row rfl 24 _ rfl (w.heap.size) rfl _ (ccG c) (0, 0) _ (by exact C4) Try.underlying24 rfl (by kernel_rfl) ?_) | (refine wpList_load_row rfl 94 _ rfl (w.heap.size + 1) rfl _ (ec v) (0, 0) _ (by exact E4) Try.underlying94 rfl (by kernel_rfl) ?_))
          refine (refWritten c hf v _).mono ?_
          rintro e w5 ⟨r5, rfl, hr5, hb5⟩
          obtain rfl : r = r5 := hr.same hr5
          have C5 := C4.keep hb5
          have E5 := E4.keep hb5
          have hw5 := hw4.trans (hb5.mono hw4.size)
          have hrr := evw_range hr
          have HR := Lib.hid hr
          clear C4 E4 hw4 hb5 hr5 hr
          by_cases hneg : r < 0
          · have d1 : decide (0 ≤ r) = false := by simp; omega
            have d2 : decide (r < 0) = true := by simp [hneg]
            have HCL := Lib.hid (clean_neg c hf ⟨ad, len, cap⟩ v HR.out hneg)
            clear hneg
            go_wp2_with (first | (refine wpList_load_row_w rfl 24 _ rfl (w.heap.size) rfl _ (ccG c) (0, 0) _ (by exact C5) Try.underlying24 rfl (by kernel_rfl) ?_) | (refine wpList_load_row_w rfl 94 _ rfl (w.heap.size + 1) rfl _ (ec v) (0, 0) _ (by exact E5) Try.underlying94 rfl (by kernel_rfl) ?_))
            refine (HCL.out _).mono ?_
            rintro e w6 ⟨rfl, hb6⟩
            have hw6 := hw5.trans (hb6.mono hw5.size)
            go_wp2
            go_ret
            exact ⟨rfl, hw6⟩
          · have d1 : decide (0 ≤ r) = true := by simp; omega
            have d2 : decide (r < 0) = false := by simp; omega
            obtain ⟨q, hq⟩ : ∃ q, decide (r ∈ sawL xs) = q := ⟨_, rfl⟩
            have HCL := Lib.hid (fun w' (hb : Below w.heap.size w w') => clean_pos c hf ⟨ad, len, cap⟩ xs HXL.out HV.out v HR.out (by omega) w' (HH.out.keep hb) hq)
            have hse := fun w' (hb : Below w.heap.size w w') => seesL (v := ⟨ad, len, cap⟩) (HH.out.keep hb) HXL.out r (by omega) (by omega)
            rw [hq] at hse
            have HSE := Lib.hid hse
            clear hse hq hneg
            go_wp2_with (first | (refine wpList_load_row_w rfl 24 _ rfl (w.heap.size) rfl _ (ccG c) (0, 0) _ (by exact C5) Try.underlying24 rfl (by kernel_rfl) ?_) | (refine wpList_load_row_w rfl 94 _ rfl (w.heap.size + 1) rfl _ (ec v) (0, 0) _ (by exact E5) Try.underlying94 rfl (by kernel_rfl) ?_))
            refine (HCL.out _ hw5).mono ?_
            rintro e w6 ⟨rfl, hb6⟩
            have hw6 := hw5.trans (hb6.mono hw5.size)
            go_wp2_with fail
            refine (HSE.out _ hw6).mono ?_
            rintro e w7 ⟨rfl, hb7⟩
            have hw7 := hw6.trans (hb7.mono hw6.size)
            cases q
            · go_wp2
              go_ret
              exact ⟨rfl, hw7⟩
            · go_wp2
              go_ret
              exact ⟨rfl, hw7⟩
theorem guardTells (c : Cfg) (hf : c.Wf) (y : Sl) (xs : List Wk) (v : Ev) (w : World) (h : WReads w y.v xs) : Calls Try.prog 9 #[cv c, y.v, .agg (ec v)] w fun e w' => e = .returned (.bool true) ∧ Below w.heap.size w w' := by
  obtain ⟨ad, len, cap⟩ := y
  have h0 := h
  obtain ⟨ad', cap', e, h1, h2, _⟩ := h
  simp only [Sl.v, Value.slice.injEq] at e
  obtain ⟨_, e2, e3⟩ := e
  by_cases hl : len ≤ 8
  · exact guardTells_short c hf ad len cap xs v hl e2.symm w h0
  · exact guardTells_long c ad len cap v (by omega) (by unfold maxLen at h2; omega) w
end Go.Proofs.Ytgjkjobemnhbmaa.Wo
