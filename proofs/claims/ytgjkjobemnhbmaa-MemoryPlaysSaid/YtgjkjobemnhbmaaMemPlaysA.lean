/- The law MemoryPlays, the ways that end early (made by genmemplays.py). -/
import Derived.Test.YtgjkjobemnhbmaaMemCopy
import Derived.Test.YtgjkjobemnhbmaaMemDup
import Derived.Test.YtgjkjobemnhbmaaOpenActs
namespace Go.Proofs.Ytgjkjobemnhbmaa.Me
open Go Go.RowKit Go.Proofs.Ytgjkjobemnhbmaa.Gro Go.Proofs.Ytgjkjobemnhbmaa.Own Go.Proofs.Ytgjkjobemnhbmaa.Wd Go.Proofs.Ytgjkjobemnhbmaa.Ap Go.Proofs.Ytgjkjobemnhbmaa.Pl
set_option linter.unusedVariables false
set_option linter.unusedSimpArgs false
theorem owns_slN {w : World} {base n size : Nat} {e : TypeId} {v : Value} {xs : List Value} (h : w.ownsRow base e size v n xs) : ∃ y : Sl, v = y.v ∧ y.len = n := by
  rcases h.2 with ⟨rfl, h0⟩ | ⟨g, cap, cur, rfl, _⟩
  · exact ⟨nilS, rfl, h0.symm⟩
  · exact ⟨⟨some ⟨g, 0, none⟩, n, cap⟩, rfl, rfl⟩
set_option maxRecDepth 100000 in
set_option maxHeartbeats 4000000 in
theorem plays_great (c : Cfg) (hf : c.Wf) (ad ad2 : Option Addr) (n cap na cap2 : Nat) (hg : greatC c = true) (w : World) :
    Calls Try.prog 3 #[cv c, .slice ad n cap, .slice ad2 na cap2] w fun e w' => e = .returned (.bool true) ∧ Below w.heap.size w w' := by
  have C0 := Bk.new w (ccM c) 24
  have hw0 : Below w.heap.size w (w.alloc (.cells (ccM c) 24)) := (Below.refl _ _).alloc (Nat.le_refl _) _
  have HG := Lib.hid (fun w => hg ▸ greatMem c hf w)
  go_enter Try.func3, Try.ntmps3
  go_wp2_with fail
  refine (awake3 _).mono ?_
  rintro e w1 ⟨rfl, hb1⟩
  have C1 := C0.keep hb1
  have hw1 := hw0.trans (hb1.mono hw0.size)
  clear C0 hw0 hb1
  go_wp2_with (refine wpList_load_row rfl 24 _ rfl w.heap.size rfl _ (ccM c) (0, 0) _ (by exact C1) Try.underlying24 rfl (by kernel_rfl) ?_)
  refine (HG.out _).mono ?_
  rintro e w2 ⟨rfl, hb2⟩
  have C2 := C1.keep hb2
  have hw2 := hw1.trans (hb2.mono hw1.size)
  clear C1 hw1 hb2 HG
  go_wp2
  go_ret
  exact ⟨rfl, hw2⟩
set_option maxRecDepth 100000 in
set_option maxHeartbeats 4000000 in
theorem plays_long (c : Cfg) (hf : c.Wf) (ad ad2 : Option Addr) (n cap na cap2 : Nat) (hg : greatC c = false) (hn : 400 < n) (hm : n ≤ 9223372036854775807) (w : World) :
    Calls Try.prog 3 #[cv c, .slice ad n cap, .slice ad2 na cap2] w fun e w' => e = .returned (.bool true) ∧ Below w.heap.size w w' := by
  have C0 := Bk.new w (ccM c) 24
  have hw0 : Below w.heap.size w (w.alloc (.cells (ccM c) 24)) := (Below.refl _ _).alloc (Nat.le_refl _) _
  have HG := Lib.hid (fun w => hg ▸ greatMem c hf w)
  go_enter Try.func3, Try.ntmps3
  go_wp2_with fail
  refine (awake3 _).mono ?_
  rintro e w1 ⟨rfl, hb1⟩
  have C1 := C0.keep hb1
  have hw1 := hw0.trans (hb1.mono hw0.size)
  clear C0 hw0 hb1
  go_wp2_with (refine wpList_load_row rfl 24 _ rfl w.heap.size rfl _ (ccM c) (0, 0) _ (by exact C1) Try.underlying24 rfl (by kernel_rfl) ?_)
  refine (HG.out _).mono ?_
  rintro e w2 ⟨rfl, hb2⟩
  have C2 := C1.keep hb2
  have hw2 := hw1.trans (hb2.mono hw1.size)
  clear C1 hw1 hb2 HG
  have d1 : decide ((400 : Int) < (n : Int)) = true := by simp; omega
  go_wp2
  go_ret
  exact ⟨rfl, hw2⟩
set_option maxRecDepth 100000 in
set_option maxHeartbeats 4000000 in
theorem plays_many (c : Cfg) (hf : c.Wf) (ad ad2 : Option Addr) (n cap na cap2 : Nat) (hg : greatC c = false) (hn : n ≤ 400) (hna : 60 < na) (hm : na ≤ 9223372036854775807) (w : World) :
    Calls Try.prog 3 #[cv c, .slice ad n cap, .slice ad2 na cap2] w fun e w' => e = .returned (.bool true) ∧ Below w.heap.size w w' := by
  have C0 := Bk.new w (ccM c) 24
  have hw0 : Below w.heap.size w (w.alloc (.cells (ccM c) 24)) := (Below.refl _ _).alloc (Nat.le_refl _) _
  have HG := Lib.hid (fun w => hg ▸ greatMem c hf w)
  go_enter Try.func3, Try.ntmps3
  go_wp2_with fail
  refine (awake3 _).mono ?_
  rintro e w1 ⟨rfl, hb1⟩
  have C1 := C0.keep hb1
  have hw1 := hw0.trans (hb1.mono hw0.size)
  clear C0 hw0 hb1
  go_wp2_with (refine wpList_load_row rfl 24 _ rfl w.heap.size rfl _ (ccM c) (0, 0) _ (by exact C1) Try.underlying24 rfl (by kernel_rfl) ?_)
  refine (HG.out _).mono ?_
  rintro e w2 ⟨rfl, hb2⟩
  have C2 := C1.keep hb2
  have hw2 := hw1.trans (hb2.mono hw1.size)
  clear C1 hw1 hb2 HG
  have d1 : decide ((400 : Int) < (n : Int)) = false := by simp; omega
  have d2 : decide ((60 : Int) < (na : Int)) = true := by simp; omega
  go_wp2
  go_ret
  exact ⟨rfl, hw2⟩
set_option maxRecDepth 100000 in
set_option maxHeartbeats 4000000 in
theorem plays_bad (c : Cfg) (hf : c.Wf) (ad ad2 : Option Addr) (n cap na cap2 : Nat) (hg : greatC c = false) (hn : n ≤ 400) (hna : na ≤ 60) (hk : chk c ≠ 0) (L : List Int) (hl : L.length = n) (w : World) (hr : Reads w .u64 (.slice ad n cap) L) :
    Calls Try.prog 3 #[cv c, .slice ad n cap, .slice ad2 na cap2] w fun e w' => e = .returned (.bool true) ∧ Below w.heap.size w w' := by
  have C0 := Bk.new w (ccM c) 24
  have hw0 : Below w.heap.size w (w.alloc (.cells (ccM c) 24)) := (Below.refl _ _).alloc (Nat.le_refl _) _
  have HG := Lib.hid (fun w => hg ▸ greatMem c hf w)
  go_enter Try.func3, Try.ntmps3
  go_wp2_with fail
  refine (awake3 _).mono ?_
  rintro e w1 ⟨rfl, hb1⟩
  have C1 := C0.keep hb1
  have hw1 := hw0.trans (hb1.mono hw0.size)
  clear C0 hw0 hb1
  go_wp2_with (refine wpList_load_row rfl 24 _ rfl w.heap.size rfl _ (ccM c) (0, 0) _ (by exact C1) Try.underlying24 rfl (by kernel_rfl) ?_)
  refine (HG.out _).mono ?_
  rintro e w2 ⟨rfl, hb2⟩
  have C2 := C1.keep hb2
  have hw2 := hw1.trans (hb2.mono hw1.size)
  clear C1 hw1 hb2 HG
  have d1 : decide ((400 : Int) < (n : Int)) = false := by simp; omega
  have d2 : decide ((60 : Int) < (na : Int)) = false := by simp; omega
  have hr2 := hr.keep hw2
  go_wp2_with fail
  refine (copyWords (v := ⟨ad, n, cap⟩) (by omega) hr2).mono ?_
  rintro e w3 ⟨y, rfl, hy, hb3⟩
  have C3 := C2.keep hb3
  have hw3 := hw2.trans (hb3.mono hw2.size)
  have hyr := Reads.of_own hy rfl
  clear C2 hw2 hb3
  go_wp2_with (refine wpList_load_row rfl 24 _ rfl w.heap.size rfl _ (ccM c) (0, 0) _ (by exact C3) Try.underlying24 rfl (by kernel_rfl) ?_)
  refine (from_no c hf hk y _).mono ?_
  rintro e w4 ⟨rfl, hb4⟩
  have C4 := C3.keep hb4
  have hw4 := hw3.trans (hb4.mono hw3.size)
  have k1 : (chk c == 0) = false := by simp [hk]
  have k2 : (chk c != 0) = true := by simp [hk]
  have k3 : (chk c != chk c) = false := by simp
  have HK := Lib.hid (refCheck c hf)
  clear C3 hw3 hb4 hk
  go_wp2_with (refine wpList_load_row rfl 24 _ rfl w.heap.size rfl _ (ccM c) (0, 0) _ (by exact C4) Try.underlying24 rfl (by kernel_rfl) ?_)
  refine (HK.out _).mono ?_
  rintro e w5 ⟨rfl, hb5⟩
  have hw5 := hw4.trans (hb5.mono hw4.size)
  go_wp2
  go_ret
  exact ⟨rfl, hw5⟩
set_option maxRecDepth 100000 in
set_option maxHeartbeats 4000000 in
theorem plays_form (c : Cfg) (hf : c.Wf) (ad ad2 : Option Addr) (n cap na cap2 : Nat) (hg : greatC c = false) (hn : n ≤ 400) (hna : na ≤ 60) (hk : chk c = 0) (L : List Int) (hl : L.length = n) (hs : (n : Int) ≠ siz c) (w : World) (hr : Reads w .u64 (.slice ad n cap) L) :
    Calls Try.prog 3 #[cv c, .slice ad n cap, .slice ad2 na cap2] w fun e w' => e = .returned (.bool true) ∧ Below w.heap.size w w' := by
  have C0 := Bk.new w (ccM c) 24
  have hw0 : Below w.heap.size w (w.alloc (.cells (ccM c) 24)) := (Below.refl _ _).alloc (Nat.le_refl _) _
  have HG := Lib.hid (fun w => hg ▸ greatMem c hf w)
  go_enter Try.func3, Try.ntmps3
  go_wp2_with fail
  refine (awake3 _).mono ?_
  rintro e w1 ⟨rfl, hb1⟩
  have C1 := C0.keep hb1
  have hw1 := hw0.trans (hb1.mono hw0.size)
  clear C0 hw0 hb1
  go_wp2_with (refine wpList_load_row rfl 24 _ rfl w.heap.size rfl _ (ccM c) (0, 0) _ (by exact C1) Try.underlying24 rfl (by kernel_rfl) ?_)
  refine (HG.out _).mono ?_
  rintro e w2 ⟨rfl, hb2⟩
  have C2 := C1.keep hb2
  have hw2 := hw1.trans (hb2.mono hw1.size)
  clear C1 hw1 hb2 HG
  have d1 : decide ((400 : Int) < (n : Int)) = false := by simp; omega
  have d2 : decide ((60 : Int) < (na : Int)) = false := by simp; omega
  have hr2 := hr.keep hw2
  go_wp2_with fail
  refine (copyWords (v := ⟨ad, n, cap⟩) (by omega) hr2).mono ?_
  rintro e w3 ⟨y, rfl, hy, hb3⟩
  have C3 := C2.keep hb3
  have hw3 := hw2.trans (hb3.mono hw2.size)
  have hyr := Reads.of_own hy rfl
  clear C2 hw2 hb3
  go_wp2_with (refine wpList_load_row rfl 24 _ rfl w.heap.size rfl _ (ccM c) (0, 0) _ (by exact C3) Try.underlying24 rfl (by kernel_rfl) ?_)
  have hyl := reads_len hyr
  refine (from_form c hf (chk_ok.1 hk) y (by rw [hyl, hl]; exact hs) _).mono ?_
  rintro e w4 ⟨rfl, hb4⟩
  have C4 := C3.keep hb4
  have hw4 := hw3.trans (hb4.mono hw3.size)
  have HK := Lib.hid (fun w => hk ▸ refCheck c hf w)
  have HA := Lib.hid (refAll c (chk_ok.1 hk))
  have HSP := Lib.hid (spots_len (chk_ok.1 hk))
  have HS := Lib.hid hs
  clear C3 hw3 hb4 hk hyl hs
  go_wp2_with (refine wpList_load_row rfl 24 _ rfl w.heap.size rfl _ (ccM c) (0, 0) _ (by exact C4) Try.underlying24 rfl (by kernel_rfl) ?_)
  refine (HK.out _).mono ?_
  rintro e w5 ⟨rfl, hb5⟩
  have C5 := C4.keep hb5
  have hw5 := hw4.trans (hb5.mono hw4.size)
  clear C4 hb5 hw4
  go_wp2_with (refine Wo.wpList_load_row_w rfl 24 _ rfl w.heap.size rfl _ (ccM c) (0, 0) _ (by exact C5) Try.underlying24 rfl (by kernel_rfl) ?_)
  refine (HA.out _).mono ?_
  rintro e w6 ⟨v, rfl, hv, hb6⟩
  have hw6 := hw5.trans (hb6.mono hw5.size)
  obtain ⟨z, hz, hzl⟩ := owns_slN hv
  subst hz
  have hne : ((n : Int) != (z.len : Int)) = true := by have := HS.out; have := HSP.out; simp; omega
  have hne2 : (n != z.len) = true := by have := HS.out; have := HSP.out; simp; omega
  clear hv hzl
  go_wp2
  go_ret
  exact ⟨rfl, hw6⟩
end Go.Proofs.Ytgjkjobemnhbmaa.Me
