/- The law SlabTells (made by genst.py). -/
import Derived.Test.YticgpikpefgldaaSlabAwake
import Derived.Test.YticgpikpefgldaaOpenList
namespace Go.Proofs.Yticgpikpefgldaa.Me
open Go Go.RowKit Go.Proofs.Yticgpikpefgldaa.Gro Go.Proofs.Yticgpikpefgldaa.Own Go.Proofs.Yticgpikpefgldaa.Wd Go.Proofs.Yticgpikpefgldaa.Ap Go.Proofs.Yticgpikpefgldaa.Pl Go.Proofs.Yticgpikpefgldaa.Wo
set_option linter.unusedVariables false
set_option linter.unusedSimpArgs false
set_option maxRecDepth 100000 in
set_option maxHeartbeats 8000000 in
theorem st_great (c : Cfg) (hf : c.Wf) (ad : Option Addr) (n cap : Nat) (k0 x0 e0 : Int) (hg : greatC c = true) (w : World) : Calls Try.prog 7 #[cv c, .slice ad n cap, .int .i64 k0, .int .u64 x0, .int .u64 e0] w fun e w' => e = .returned (.bool true) ∧ Below w.heap.size w w' := by
  have C0 := Bk.new w (ccM c) 24
  have hw0 : Below w.heap.size w (w.alloc (.cells (ccM c) 24)) := (Below.refl _ _).alloc (Nat.le_refl _) _
  have HG := Lib.hid (fun w => hg ▸ greatMem c hf w)
  go_enter Try.func7, Try.ntmps7
  go_wp2_with fail
  refine (awake8 _).mono ?_
  rintro e w1 ⟨rfl, hb1⟩
  have C1 := C0.keep hb1
  have hw1 := hw0.trans (hb1.mono hw0.size)
  clear C0 hw0 hb1
  go_wp2_with (refine wpList_load_row rfl 24 _ rfl w.heap.size rfl _ (ccM c) (0, 0) _ (by exact C1) Try.underlying24 rfl (by kernel_rfl) ?_)
  refine (HG.out _).mono ?_
  rintro e w2 ⟨rfl, hb2⟩
  have C2 := C1.keep hb2
  have hw2 := hw1.trans (hb2.mono hw1.size)
  clear C1 hw1 hb2 HG
  go_wp2
  go_ret
  exact ⟨rfl, hw2⟩
set_option maxRecDepth 100000 in
set_option maxHeartbeats 8000000 in
theorem st_long (c : Cfg) (hf : c.Wf) (ad : Option Addr) (n cap : Nat) (k0 x0 e0 : Int) (hg : greatC c = false) (hn : 400 < n) (hm : n ≤ 9223372036854775807) (w : World) : Calls Try.prog 7 #[cv c, .slice ad n cap, .int .i64 k0, .int .u64 x0, .int .u64 e0] w fun e w' => e = .returned (.bool true) ∧ Below w.heap.size w w' := by
  have C0 := Bk.new w (ccM c) 24
  have hw0 : Below w.heap.size w (w.alloc (.cells (ccM c) 24)) := (Below.refl _ _).alloc (Nat.le_refl _) _
  have HG := Lib.hid (fun w => hg ▸ greatMem c hf w)
  go_enter Try.func7, Try.ntmps7
  go_wp2_with fail
  refine (awake8 _).mono ?_
  rintro e w1 ⟨rfl, hb1⟩
  have C1 := C0.keep hb1
  have hw1 := hw0.trans (hb1.mono hw0.size)
  clear C0 hw0 hb1
  go_wp2_with (refine wpList_load_row rfl 24 _ rfl w.heap.size rfl _ (ccM c) (0, 0) _ (by exact C1) Try.underlying24 rfl (by kernel_rfl) ?_)
  refine (HG.out _).mono ?_
  rintro e w2 ⟨rfl, hb2⟩
  have C2 := C1.keep hb2
  have hw2 := hw1.trans (hb2.mono hw1.size)
  clear C1 hw1 hb2 HG
  have d1 : decide ((400 : Int) < (n : Int)) = true := by simp; omega
  go_wp2
  go_ret
  exact ⟨rfl, hw2⟩
set_option maxRecDepth 100000 in
set_option maxHeartbeats 8000000 in
theorem st_main (c : Cfg) (hf : c.Wf) (ad : Option Addr) (n cap : Nat) (k0 x0 e0 : Int) (hx0 : 0 ≤ x0 ∧ x0 < 18446744073709551616) (he0 : e0 < 18446744073709551616) (hg : greatC c = false) (hn : n ≤ 400) (L : List Int) (hL : ∀ x ∈ L, 0 ≤ x ∧ x < 18446744073709551616) (w : World) (hr : Reads w .u64 (.slice ad n cap) L) : Calls Try.prog 7 #[cv c, .slice ad n cap, .int .i64 k0, .int .u64 x0, .int .u64 e0] w fun e w' => e = .returned (.bool true) ∧ Below w.heap.size w w' := by
  have C0 := Bk.new w (ccM c) 24
  have hw0 : Below w.heap.size w (w.alloc (.cells (ccM c) 24)) := (Below.refl _ _).alloc (Nat.le_refl _) _
  have HG := Lib.hid (fun w => hg ▸ greatMem c hf w)
  have d1 : decide ((400 : Int) < (n : Int)) = false := by simp; omega
  obtain ⟨q, hq⟩ : ∃ q, rdyB x0 e0 = q := ⟨_, rfl⟩
  obtain ⟨V, hV⟩ : ∃ V, wrdV c L k0 = V := ⟨_, rfl⟩
  obtain ⟨B, hB⟩ : ∃ B, wrdB c L k0 = B := ⟨_, rfl⟩
  obtain ⟨q2, hq2⟩ : ∃ q2, gonB c L k0 = q2 := ⟨_, rfl⟩
  have hVr := wrdV_range (c := c) hL k0
  rw [hV] at hVr
  have HRY := Lib.hid (fun w' => hq ▸ ready x0 e0 hx0.1 hx0.2 he0 w')
  have HRR := Lib.hid (fun w' => hq ▸ rready x0 e0 hx0.1 hx0.2 he0 w')
  have HHR := Lib.hid hr
  have HHL := Lib.hid hL
  have HHV := Lib.hid hV
  have HHB := Lib.hid hB
  have HHQ := Lib.hid hq2
  have HVR := Lib.hid hVr
  have HHF := Lib.hid hf
  clear hr hL hV hB hq2 hq hVr hx0 he0
  go_enter Try.func7, Try.ntmps7
  go_wp2_with fail
  refine (awake8 _).mono ?_
  rintro e w1 ⟨rfl, hb1⟩
  have C1 := C0.keep hb1
  have hw1 := hw0.trans (hb1.mono hw0.size)
  clear C0 hw0 hb1
  go_wp2_with (refine wpList_load_row rfl 24 _ rfl w.heap.size rfl _ (ccM c) (0, 0) _ (by exact C1) Try.underlying24 rfl (by kernel_rfl) ?_)
  refine (HG.out _).mono ?_
  rintro e w2 ⟨rfl, hb2⟩
  have C2 := C1.keep hb2
  have hw2 := hw1.trans (hb2.mono hw1.size)
  clear C1 hw1 hb2 HG
  have i1 := rword c HHF.out (v := ⟨ad, n, cap⟩) (HHR.out.keep hw2) HHL.out k0
  unfold WrdPost at i1
  rw [HHV.out, HHB.out] at i1
  have HI1 := Lib.hid i1
  clear i1
  go_wp2_with (refine wpList_load_row rfl 24 _ rfl w.heap.size rfl _ (ccM c) (0, 0) _ (by exact C2) Try.underlying24 rfl (by kernel_rfl) ?_)
  refine HI1.out.mono ?_
  rintro e w3 ⟨rfl, hb3⟩
  have C3 := C2.keep hb3
  have hw3 := hw2.trans (hb3.mono hw2.size)
  clear C2 hw2 hb3 HI1
  go_wp2_with fail
  refine (unslabR V HVR.out.1 HVR.out.2 _).mono ?_
  rintro e w4 ⟨rfl, hb4⟩
  have C4 := C3.keep hb4
  have hw4 := hw3.trans (hb4.mono hw3.size)
  clear C3 hw3 hb4
  have x4 := C4.cells
  have l4 := C4.lt
  have hr4 := HHR.out.keep hw4
  have HGO : RowKit.Hid (∀ m : Gr w4, Calls Try.prog 34 #[cv c, .slice ad n cap, .int .i64 k0] m.1 (RetB (.bool q2) m.1)) := Lib.hid (fun m => HHQ.out ▸ gone c HHF.out (v := ⟨ad, n, cap⟩) (hr4.keep m.2) HHL.out k0)
  have HRG : RowKit.Hid (∀ m : Gr w4, Calls Try.prog 35 #[cv c, .slice ad n cap, .int .i64 k0] m.1 (RetB (.bool q2) m.1)) := Lib.hid (fun m => HHQ.out ▸ rgone c HHF.out (v := ⟨ad, n, cap⟩) (hr4.keep m.2) HHL.out k0)
  have HST : RowKit.Hid (∀ m : Gr w4, Calls Try.prog 36 #[cv c, .slice ad n cap, .int .i64 k0] m.1 (RetB (.int .i64 (V % 16)) m.1)) := Lib.hid (fun m => stateW c HHF.out (v := ⟨ad, n, cap⟩) (hr4.keep m.2) HHL.out k0 HHV.out HHB.out)
  have HPK : RowKit.Hid (∀ m : Gr w4, Calls Try.prog 37 #[cv c, .slice ad n cap, .int .i64 k0] m.1 (RetB (.int .i64 (V / 16 % 4096)) m.1)) := Lib.hid (fun m => parkedW c HHF.out (v := ⟨ad, n, cap⟩) (hr4.keep m.2) HHL.out k0 HHV.out HHB.out)
  have t1 : (q == q) = true := by cases q <;> rfl
  have t2 : (q2 == q2) = true := by cases q2 <;> rfl
  have t3 : (V % 16 == V % 16) = true := by simp
  have t4 : (V / 16 % 4096 == V / 16 % 4096) = true := by simp
  clear hr4
  go_wp2
  refine wp_region_grown (by kernel_rfl) (by kernel_rfl) ?_
  have hg := @gcell
  repeat (go_big_quiet_step (first | exact grown_of (HRY.out _) | exact grown_of (HRR.out _) | exact grown_of (HGO.out _) | exact grown_of (HRG.out _) | exact grown_of (HST.out _) | exact grown_of (HPK.out _)))
  refine wpQuiet_nil ?_
  rintro w5 ⟨⟨_, hb5⟩, rfl⟩
  clear hg
  have hw5 := hw4.trans (hb5.mono hw4.size)
  go_wp2
  go_ret
  exact ⟨rfl, hw5⟩
theorem slabTells (c : Cfg) (hf : c.Wf) (v : Sl) (k0 x0 e0 : Int) (L : List Int) (w : World) (hx0 : 0 ≤ x0 ∧ x0 < 18446744073709551616) (he0 : e0 < 18446744073709551616) (hr : Reads w .u64 v.v L) (hL : ∀ x ∈ L, 0 ≤ x ∧ x < 18446744073709551616) :
    Calls Try.prog 7 #[cv c, v.v, .int .i64 k0, .int .u64 x0, .int .u64 e0] w fun e w' => e = .returned (.bool true) ∧ Below w.heap.size w w' := by
  have hle := reads_le hr
  obtain ⟨ad, n, cap⟩ := v
  simp only at hle
  unfold maxLen at hle
  cases hg : greatC c
  · by_cases hn : n ≤ 400
    · exact st_main c hf ad n cap k0 x0 e0 hx0 he0 hg hn L hL w hr
    · exact st_long c hf ad n cap k0 x0 e0 hg (by omega) (by omega) w
  · exact st_great c hf ad n cap k0 x0 e0 hg w
end Go.Proofs.Yticgpikpefgldaa.Me
