/- The law StackLists. -/
import Derived.Test.YtblkfbbdeodpjaaLists
import Derived.Test.YtblkfbbdeodpjaaOpens
namespace Go.Proofs.Ytblkfbbdeodpjaa.Me
open Go Go.RowKit Go.Proofs.Ytblkfbbdeodpjaa.Gro Go.Proofs.Ytblkfbbdeodpjaa.Own Go.Proofs.Ytblkfbbdeodpjaa.Wd Go.Proofs.Ytblkfbbdeodpjaa.Ap Go.Proofs.Ytblkfbbdeodpjaa.Pl Go.Proofs.Ytblkfbbdeodpjaa.Wo
set_option linter.unusedVariables false
set_option linter.unusedSimpArgs false
set_option maxRecDepth 100000 in
set_option maxHeartbeats 8000000 in
theorem sl_great (c : Cfg) (hf : c.Wf) (ad : Option Addr) (n cap : Nat) (t0 : Bool) (hg : greatC c = true) (w : World) : Calls Try.prog 3 #[cv c, .slice ad n cap, .bool t0] w fun e w' => e = .returned (.bool true) ∧ Below w.heap.size w w' := by
  have C0 := Bk.new w (ccM c) 24
  have hw0 : Below w.heap.size w (w.alloc (.cells (ccM c) 24)) := (Below.refl _ _).alloc (Nat.le_refl _) _
  have HG := Lib.hid (fun w => hg ▸ greatMem c hf w)
  go_enter Try.func3, Try.ntmps3
  go_wp2_with fail
  refine (awake6 _).mono ?_
  rintro e w1 ⟨rfl, hb1⟩
  have C1 := C0.keep hb1
  have hw1 := hw0.trans (hb1.mono hw0.size)
  clear C0 hw0 hb1
  go_wp2_with (refine wpList_load_row rfl 24 _ rfl w.heap.size rfl _ (ccM c) (0, 0) _ (by exact C1) Try.underlying24 rfl (by kernel_rfl) ?_)
  refine (HG.out _).mono ?_
  rintro e w2 ⟨rfl, hb2⟩
  have C2 := C1.keep hb2
  have hw2 := hw1.trans (hb2.mono hw1.size)
  clear C1 hw1 hb2 HG
  go_wp2
  go_ret
  exact ⟨rfl, hw2⟩
set_option maxRecDepth 100000 in
set_option maxHeartbeats 8000000 in
theorem sl_long (c : Cfg) (hf : c.Wf) (ad : Option Addr) (n cap : Nat) (t0 : Bool) (hg : greatC c = false) (hn : 400 < n) (hm : n ≤ 9223372036854775807) (w : World) : Calls Try.prog 3 #[cv c, .slice ad n cap, .bool t0] w fun e w' => e = .returned (.bool true) ∧ Below w.heap.size w w' := by
  have C0 := Bk.new w (ccM c) 24
  have hw0 : Below w.heap.size w (w.alloc (.cells (ccM c) 24)) := (Below.refl _ _).alloc (Nat.le_refl _) _
  have HG := Lib.hid (fun w => hg ▸ greatMem c hf w)
  go_enter Try.func3, Try.ntmps3
  go_wp2_with fail
  refine (awake6 _).mono ?_
  rintro e w1 ⟨rfl, hb1⟩
  have C1 := C0.keep hb1
  have hw1 := hw0.trans (hb1.mono hw0.size)
  clear C0 hw0 hb1
  go_wp2_with (refine wpList_load_row rfl 24 _ rfl w.heap.size rfl _ (ccM c) (0, 0) _ (by exact C1) Try.underlying24 rfl (by kernel_rfl) ?_)
  refine (HG.out _).mono ?_
  rintro e w2 ⟨rfl, hb2⟩
  have C2 := C1.keep hb2
  have hw2 := hw1.trans (hb2.mono hw1.size)
  clear C1 hw1 hb2 HG
  have d1 : decide ((400 : Int) < (n : Int)) = true := by simp; omega
  go_wp2
  go_ret
  exact ⟨rfl, hw2⟩
set_option maxRecDepth 100000 in
set_option maxHeartbeats 8000000 in
theorem sl_main (c : Cfg) (hf : c.Wf) (ad : Option Addr) (n cap : Nat) (t0 : Bool) (hg : greatC c = false) (hn : n ≤ 400) (L : List Int) (hL : ∀ x ∈ L, 0 ≤ x ∧ x < 18446744073709551616) (w : World) (hr : Reads w .u64 (.slice ad n cap) L) : Calls Try.prog 3 #[cv c, .slice ad n cap, .bool t0] w fun e w' => e = .returned (.bool true) ∧ Below w.heap.size w w' := by
  have C0 := Bk.new w (ccM c) 24
  have hw0 : Below w.heap.size w (w.alloc (.cells (ccM c) 24)) := (Below.refl _ _).alloc (Nat.le_refl _) _
  have HG := Lib.hid (fun w => hg ▸ greatMem c hf w)
  have d1 : decide ((400 : Int) < (n : Int)) = false := by simp; omega
  have HE : RowKit.Hid (∀ w', Below w.heap.size w w' → Calls Try.prog 17 #[cv c, .slice ad n cap, .bool t0] w' (ListPost c L t0 w')) := Lib.hid (fun w' hb => stackList c hf t0 (v := ⟨ad, n, cap⟩) (hr.keep hb) hL)
  have HR : RowKit.Hid (∀ w', Below w.heap.size w w' → Calls Try.prog 18 #[cv c, .slice ad n cap, .bool t0] w' (ListPost c L t0 w')) := Lib.hid (fun w' hb => refList c hf t0 (v := ⟨ad, n, cap⟩) (hr.keep hb) hL)
  obtain ⟨R, hR⟩ : ∃ R, R = listR c L t0 := ⟨_, rfl⟩
  obtain ⟨q, hq⟩ : ∃ q, q = R.isSome := ⟨_, rfl⟩
  unfold ListPost at HE HR
  rw [← hR, ← hq] at HE HR
  have t1 : (q == q) = true := by simp
  clear hr hL hR hq
  go_enter Try.func3, Try.ntmps3
  go_wp2_with fail
  refine (awake6 _).mono ?_
  rintro e w1 ⟨rfl, hb1⟩
  have C1 := C0.keep hb1
  have hw1 := hw0.trans (hb1.mono hw0.size)
  clear C0 hw0 hb1
  go_wp2_with (refine wpList_load_row rfl 24 _ rfl w.heap.size rfl _ (ccM c) (0, 0) _ (by exact C1) Try.underlying24 rfl (by kernel_rfl) ?_)
  refine (HG.out _).mono ?_
  rintro e w2 ⟨rfl, hb2⟩
  have C2 := C1.keep hb2
  have hw2 := hw1.trans (hb2.mono hw1.size)
  clear C1 hw1 hb2 HG
  go_wp2_with (refine wpList_load_row rfl 24 _ rfl w.heap.size rfl _ (ccM c) (0, 0) _ (by exact C2) Try.underlying24 rfl (by kernel_rfl) ?_)
  refine (HE.out _ hw2).mono ?_
  rintro e w3 ⟨y3, rfl, hy3, hb3⟩
  have C3 := C2.keep hb3
  have hw3 := hw2.trans (hb3.mono hw2.size)
  have r3 := hy3.reads
  clear C2 hw2 hb3 HE hy3
  go_wp2_with (refine wpList_load_row rfl 24 _ rfl w.heap.size rfl _ (ccM c) (0, 0) _ (by exact C3) Try.underlying24 rfl (by kernel_rfl) ?_)
  refine (HR.out _ hw3).mono ?_
  rintro e w4 ⟨y4, rfl, hy4, hb4⟩
  have hw4 := hw3.trans (hb4.mono hw3.size)
  have r34 := r3.keep hb4
  have r4 := hy4.reads
  clear C3 hw3 hb4 HR hy4 r3
  go_wp2_with fail
  refine (ints_true r34 r4).mono ?_
  rintro e w5 ⟨rfl, hb5⟩
  have hw5 := hw4.trans (hb5.mono hw4.size)
  go_wp2
  go_ret
  exact ⟨rfl, hw5⟩
theorem stackLists (c : Cfg) (hf : c.Wf) (v : Sl) (t0 : Bool) (L : List Int) (w : World) (hr : Reads w .u64 v.v L) (hL : ∀ x ∈ L, 0 ≤ x ∧ x < 18446744073709551616) :
    Calls Try.prog 3 #[cv c, v.v, .bool t0] w fun e w' => e = .returned (.bool true) ∧ Below w.heap.size w w' := by
  have hle := reads_le hr
  obtain ⟨ad, n, cap⟩ := v
  simp only at hle
  unfold maxLen at hle
  cases hg : greatC c
  · by_cases hn : n ≤ 400
    · exact sl_main c hf ad n cap t0 hg hn L hL w hr
    · exact sl_long c hf ad n cap t0 hg (by omega) (by omega) w
  · exact sl_great c hf ad n cap t0 hg w
end Go.Proofs.Ytblkfbbdeodpjaa.Me
