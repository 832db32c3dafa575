/- The law EntryLives (made out of SlabTells' text by genlives.py). -/
import Derived.Test.YtblkfbbdeodpjaaEntryAwake
import Derived.Test.YtblkfbbdeodpjaaOpens
namespace Go.Proofs.Ytblkfbbdeodpjaa.Me
open Go Go.RowKit Go.Proofs.Ytblkfbbdeodpjaa.Gro Go.Proofs.Ytblkfbbdeodpjaa.Own Go.Proofs.Ytblkfbbdeodpjaa.Wd Go.Proofs.Ytblkfbbdeodpjaa.Ap Go.Proofs.Ytblkfbbdeodpjaa.Pl Go.Proofs.Ytblkfbbdeodpjaa.Wo
set_option linter.unusedVariables false
set_option linter.unusedSimpArgs false
set_option maxRecDepth 100000 in
set_option maxHeartbeats 8000000 in
theorem el_great (c : Cfg) (hf : c.Wf) (ad : Option Addr) (n cap : Nat) (t0 : Int) (hg : greatC c = true) (w : World) : Calls Try.prog 10 #[cv c, .slice ad n cap, .int .u64 t0] w fun e w' => e = .returned (.bool true) ∧ Below w.heap.size w w' := by
  have C0 := Bk.new w (ccM c) 24
  have hw0 : Below w.heap.size w (w.alloc (.cells (ccM c) 24)) := (Below.refl _ _).alloc (Nat.le_refl _) _
  have HG := Lib.hid (fun w => hg ▸ greatMem c hf w)
  go_enter Try.func10, Try.ntmps10
  go_wp2_with fail
  refine (awake11 _).mono ?_
  rintro e w1 ⟨rfl, hb1⟩
  have C1 := C0.keep hb1
  have hw1 := hw0.trans (hb1.mono hw0.size)
  clear C0 hw0 hb1
  go_wp2_with (refine wpList_load_row rfl 24 _ rfl w.heap.size rfl _ (ccM c) (0, 0) _ (by exact C1) Try.underlying24 rfl (by kernel_rfl) ?_)
  refine (HG.out _).mono ?_
  rintro e w2 ⟨rfl, hb2⟩
  have C2 := C1.keep hb2
  have hw2 := hw1.trans (hb2.mono hw1.size)
  clear C1 hw1 hb2 HG
  go_wp2
  go_ret
  exact ⟨rfl, hw2⟩
set_option maxRecDepth 100000 in
set_option maxHeartbeats 8000000 in
theorem el_long (c : Cfg) (hf : c.Wf) (ad : Option Addr) (n cap : Nat) (t0 : Int) (hg : greatC c = false) (hn : 400 < n) (hm : n ≤ 9223372036854775807) (w : World) : Calls Try.prog 10 #[cv c, .slice ad n cap, .int .u64 t0] w fun e w' => e = .returned (.bool true) ∧ Below w.heap.size w w' := by
  have C0 := Bk.new w (ccM c) 24
  have hw0 : Below w.heap.size w (w.alloc (.cells (ccM c) 24)) := (Below.refl _ _).alloc (Nat.le_refl _) _
  have HG := Lib.hid (fun w => hg ▸ greatMem c hf w)
  go_enter Try.func10, Try.ntmps10
  go_wp2_with fail
  refine (awake11 _).mono ?_
  rintro e w1 ⟨rfl, hb1⟩
  have C1 := C0.keep hb1
  have hw1 := hw0.trans (hb1.mono hw0.size)
  clear C0 hw0 hb1
  go_wp2_with (refine wpList_load_row rfl 24 _ rfl w.heap.size rfl _ (ccM c) (0, 0) _ (by exact C1) Try.underlying24 rfl (by kernel_rfl) ?_)
  refine (HG.out _).mono ?_
  rintro e w2 ⟨rfl, hb2⟩
  have C2 := C1.keep hb2
  have hw2 := hw1.trans (hb2.mono hw1.size)
  clear C1 hw1 hb2 HG
  have d1 : decide ((400 : Int) < (n : Int)) = true := by simp; omega
  go_wp2
  go_ret
  exact ⟨rfl, hw2⟩
set_option maxRecDepth 100000 in
set_option maxHeartbeats 8000000 in
theorem el_main (c : Cfg) (hf : c.Wf) (ad : Option Addr) (n cap : Nat) (t0 : Int) (ht : 0 ≤ t0 ∧ t0 < 18446744073709551616) (hg : greatC c = false) (hn : n ≤ 400) (L : List Int) (hL : ∀ x ∈ L, 0 ≤ x ∧ x < 18446744073709551616) (w : World) (hr : Reads w .u64 (.slice ad n cap) L) : Calls Try.prog 10 #[cv c, .slice ad n cap, .int .u64 t0] w fun e w' => e = .returned (.bool true) ∧ Below w.heap.size w w' := by
  have C0 := Bk.new w (ccM c) 24
  have hw0 : Below w.heap.size w (w.alloc (.cells (ccM c) 24)) := (Below.refl _ _).alloc (Nat.le_refl _) _
  have HG := Lib.hid (fun w => hg ▸ greatMem c hf w)
  have d1 : decide ((400 : Int) < (n : Int)) = false := by simp; omega
  obtain ⟨I, hI⟩ : ∃ I, lvI c L t0 = I := ⟨_, rfl⟩
  obtain ⟨B, hB⟩ : ∃ B, lvB c L t0 = B := ⟨_, rfl⟩
  obtain ⟨q, hq⟩ : ∃ q, goodB c t0 = q := ⟨_, rfl⟩
  have HE : RowKit.Hid (∀ w', Below w.heap.size w w' → Calls Try.prog 42 #[cv c, .slice ad n cap, .int .u64 t0] w' (LvRet (.tuple #[.int .i64 I, .bool B]) w')) := Lib.hid (fun w' hb => by
    have := eLive c hf (v := ⟨ad, n, cap⟩) (hr.keep hb) hL t0 ht
    unfold LvPost at this
    rwa [hI, hB] at this)
  have HR : RowKit.Hid (∀ w', Below w.heap.size w w' → Calls Try.prog 43 #[cv c, .slice ad n cap, .int .u64 t0] w' (LvRet (.tuple #[.int .i64 I, .bool B]) w')) := Lib.hid (fun w' hb => by
    have := rLive c hf (v := ⟨ad, n, cap⟩) (hr.keep hb) hL t0 ht
    unfold LvPost at this
    rwa [hI, hB] at this)
  have HGE := Lib.hid (fun w' => hq ▸ eGood c hf t0 ht w')
  have HGR := Lib.hid (fun w' => hq ▸ rGood c hf t0 ht w')
  have t1 : (I == I) = true := by simp
  have t2 : (B == B) = true := by cases B <;> rfl
  have t3 : (q == q) = true := by cases q <;> rfl
  clear hr hL hI hB hq ht
  go_enter Try.func10, Try.ntmps10
  go_wp2_with fail
  refine (awake11 _).mono ?_
  rintro e w1 ⟨rfl, hb1⟩
  have C1 := C0.keep hb1
  have hw1 := hw0.trans (hb1.mono hw0.size)
  clear C0 hw0 hb1
  go_wp2_with (refine wpList_load_row rfl 24 _ rfl w.heap.size rfl _ (ccM c) (0, 0) _ (by exact C1) Try.underlying24 rfl (by kernel_rfl) ?_)
  refine (HG.out _).mono ?_
  rintro e w2 ⟨rfl, hb2⟩
  have C2 := C1.keep hb2
  have hw2 := hw1.trans (hb2.mono hw1.size)
  clear C1 hw1 hb2 HG
  go_wp2_with (refine wpList_load_row rfl 24 _ rfl w.heap.size rfl _ (ccM c) (0, 0) _ (by exact C2) Try.underlying24 rfl (by kernel_rfl) ?_)
  refine (HE.out _ hw2).mono ?_
  rintro e w3 ⟨rfl, hb3⟩
  have C3 := C2.keep hb3
  have hw3 := hw2.trans (hb3.mono hw2.size)
  clear C2 hw2 hb3 HE
  go_wp2_with (refine wpList_load_row rfl 24 _ rfl w.heap.size rfl _ (ccM c) (0, 0) _ (by exact C3) Try.underlying24 rfl (by kernel_rfl) ?_)
  refine (HR.out _ hw3).mono ?_
  rintro e w4 ⟨rfl, hb4⟩
  have C4 := C3.keep hb4
  have hw4 := hw3.trans (hb4.mono hw3.size)
  clear C3 hw3 hb4 HR
  have x4 := C4.cells
  have l4 := C4.lt
  go_wp2
  refine wp_region_grown (by kernel_rfl) (by kernel_rfl) ?_
  have hg := @gcell
  repeat (go_big_quiet_step (first | exact grown_of (HGE.out _) | exact grown_of (HGR.out _)))
  refine wpQuiet_nil ?_
  rintro w5 ⟨⟨_, hb5⟩, rfl⟩
  clear hg
  have hw5 := hw4.trans (hb5.mono hw4.size)
  go_wp2
  go_ret
  exact ⟨rfl, hw5⟩
theorem entryLives (c : Cfg) (hf : c.Wf) (v : Sl) (t0 : Int) (L : List Int) (w : World) (ht : 0 ≤ t0 ∧ t0 < 18446744073709551616) (hr : Reads w .u64 v.v L) (hL : ∀ x ∈ L, 0 ≤ x ∧ x < 18446744073709551616) :
    Calls Try.prog 10 #[cv c, v.v, .int .u64 t0] w fun e w' => e = .returned (.bool true) ∧ Below w.heap.size w w' := by
  have hle := reads_le hr
  obtain ⟨ad, n, cap⟩ := v
  simp only at hle
  unfold maxLen at hle
  cases hg : greatC c
  · by_cases hn : n ≤ 400
    · exact el_main c hf ad n cap t0 ht hg hn L hL w hr
    · exact el_long c hf ad n cap t0 hg (by omega) (by omega) w
  · exact el_great c hf ad n cap t0 hg w
end Go.Proofs.Ytblkfbbdeodpjaa.Me
