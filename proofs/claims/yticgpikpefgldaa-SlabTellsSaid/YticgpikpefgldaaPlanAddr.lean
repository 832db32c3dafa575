/- Contracts of package plan: the addresses. -/
import Derived.Test.YticgpikpefgldaaPlanWalks
import Derived.Test.YticgpikpefgldaaGrow
import Derived.Test.YticgpikpefgldaaRows2
namespace Go.Proofs.Yticgpikpefgldaa.Pl
open Go Go.RowKit Go.Proofs.Yticgpikpefgldaa.Gro
set_option linter.unusedVariables false
set_option linter.unusedSimpArgs false

theorem ret_bool {a b : Bool} (h : a = b) : Ending.returned (.bool a) = .returned (.bool b) := by rw [h]
def nc (c : Cfg) : Cfg := if chk c = 0 then c else ⟨0, 0, 0, 0, 0, 0, 0, 0⟩
def okB (c : Cfg) : Bool := chk c == 0
theorem okB_true {c : Cfg} (h : chk c = 0) : okB c = true := by simp [okB, h]
theorem okB_false {c : Cfg} (h : chk c ≠ 0) : okB c = false := by simp [okB, h]
theorem okB_ok {c : Cfg} (h : okB c = true) : Ok c := chk_ok.1 (by simpa [okB] using h)
def tot (c : Cfg) : Int := if okB c = true then c.sl * c.bl else 0
def siz (c : Cfg) : Int := if okB c = true then 3 + c.ww + c.sl + 2 * c.en + c.sl * c.bl * (1 + c.wd) else 0
def hasB (c : Cfg) (i n : Int) : Bool := okB c && decide (0 ≤ i) && decide (i < n)
def aAnn (c : Cfg) (i : Int) : Int := if hasB c i c.ww = true then 3 + i else -1
def aSlab (c : Cfg) (i : Int) : Int := if hasB c i c.sl = true then 3 + c.ww + i else -1
def aEnt (c : Cfg) (i : Int) : Int := if hasB c i c.en = true then 3 + c.ww + c.sl + 2 * i else -1
def aEnl (c : Cfg) (i : Int) : Int := if hasB c i c.en = true then 3 + c.ww + c.sl + 2 * i + 1 else -1
def aBlk (c : Cfg) (i : Int) : Int := if hasB c i (tot c) = true then 3 + c.ww + c.sl + 2 * c.en + i * (1 + c.wd) else -1
def aWrd (c : Cfg) (b i : Int) : Int := if (hasB c b (tot c) && hasB c i c.wd) = true then 3 + c.ww + c.sl + 2 * c.en + b * (1 + c.wd) + 1 + i else -1
def aHom (c : Cfg) (b : Int) : Int := if hasB c b (tot c) = true then b / c.bl else -1
theorem hasB_spec {c : Cfg} {i n : Int} (h : hasB c i n = true) : okB c = true ∧ 0 ≤ i ∧ i < n := by
  simp only [hasB, Bool.and_eq_true, decide_eq_true_eq] at h
  exact ⟨h.1.1, h.1.2, h.2⟩
theorem mul_range {a b A B : Int} (ha : 0 ≤ a) (hA : a ≤ A) (hb : 0 ≤ b) (hB : b ≤ B) : 0 ≤ a * b ∧ a * b ≤ A * B :=
  ⟨Int.mul_nonneg ha hb, Int.mul_le_mul hA hB hb (Int.le_trans ha hA)⟩
theorem tot_ok {c : Cfg} (h : okB c = true) : tot c = c.sl * c.bl ∧ 0 ≤ c.sl * c.bl ∧ c.sl * c.bl ≤ 128 := by
  have k := okB_ok h
  refine ⟨by rw [tot, if_pos h], ?_⟩
  have := mul_range (a := c.sl) (b := c.bl) (A := 8) (B := 16) (by have := k.sl; omega) k.sl.2 (by have := k.bl; omega) k.bl.2
  omega
theorem tot_range (c : Cfg) : 0 ≤ tot c ∧ tot c ≤ 128 := by
  by_cases h : okB c = true
  · have := tot_ok h; omega
  · rw [tot, if_neg h]; omega
theorem valid (c : Cfg) (h : c.Wf) (w : World) : Calls Try.prog 111 #[cv c] w fun e w' => e = .returned (.bool (okB c)) ∧ Below w.heap.size w w' := by
  by_cases hv : chk c = 0
  · have hB : (chk c == 0) = true := by simp [hv]
    have HK := Lib.hid (okB_true hv)
    clear hv
    go_enter Try.func111, Try.ntmps111
    go_wp2_with (go_at_call 110; refine (check c h _).mono ?_; rintro e w1 ⟨rfl, hb1⟩)
    go_ret
    exact ⟨ret_bool HK.out.symm, ((Below.refl _ _).alloc (Nat.le_refl _) _).trans (hb1.mono (by simp))⟩
  · have hB : (chk c == 0) = false := by simp [hv]
    have HK := Lib.hid (okB_false hv)
    clear hv
    go_enter Try.func111, Try.ntmps111
    go_wp2_with (go_at_call 110; refine (check c h _).mono ?_; rintro e w1 ⟨rfl, hb1⟩)
    go_ret
    exact ⟨ret_bool HK.out.symm, ((Below.refl _ _).alloc (Nat.le_refl _) _).trans (hb1.mono (by simp))⟩
theorem slabsAt (c : Cfg) (h : Ok c) (w : World) : Calls Try.prog 131 #[cv c] w fun e w' => e = .returned (.int .i64 (3 + c.ww)) ∧ Below w.heap.size w w' := by
  obtain ⟨h1, h2⟩ := h.ww
  go_enter Try.func131, Try.ntmps131
  go_wp2
  go_ret
  exact ⟨rfl, (Below.refl _ _).alloc (Nat.le_refl _) _⟩
theorem blockSize (c : Cfg) (h : Ok c) (w : World) : Calls Try.prog 113 #[cv c] w fun e w' => e = .returned (.int .i64 (1 + c.wd)) ∧ Below w.heap.size w w' := by
  obtain ⟨h1, h2⟩ := h.wd
  go_enter Try.func113, Try.ntmps113
  go_wp2
  go_ret
  exact ⟨rfl, (Below.refl _ _).alloc (Nat.le_refl _) _⟩
theorem entriesAt (c : Cfg) (h : Ok c) (w : World) : Calls Try.prog 139 #[cv c] w fun e w' => e = .returned (.int .i64 (3 + c.ww + c.sl)) ∧ Below w.heap.size w w' := by
  obtain ⟨h0, k0⟩ := h.ww
  obtain ⟨h1, k1⟩ := h.sl
  have HS := Lib.hid (slabsAt c h)
  go_enter Try.func139, Try.ntmps139
  go_wp2
  refine wp_region_grown (by kernel_rfl) (by kernel_rfl) ?_
  have hg := @gcell
  repeat (go_big_quiet_step (exact grown_of (HS.out _)))
  refine wpQuiet_nil ?_
  rintro w2 ⟨⟨_, hb2⟩, rfl⟩
  clear hg
  go_wp2
  go_ret
  exact ⟨rfl, ((Below.refl _ _).alloc (Nat.le_refl _) _).trans (hb2.mono (by simp))⟩
theorem blocksAt (c : Cfg) (h : Ok c) (w : World) : Calls Try.prog 112 #[cv c] w fun e w' => e = .returned (.int .i64 (3 + c.ww + c.sl + 2 * c.en)) ∧ Below w.heap.size w w' := by
  obtain ⟨h0, k0⟩ := h.ww
  obtain ⟨h1, k1⟩ := h.sl
  obtain ⟨h2, k2⟩ := h.en
  have HS := Lib.hid (entriesAt c h)
  go_enter Try.func112, Try.ntmps112
  go_wp2
  refine wp_region_grown (by kernel_rfl) (by kernel_rfl) ?_
  have hg := @gcell
  repeat (go_big_quiet_step (exact grown_of (HS.out _)))
  refine wpQuiet_nil ?_
  rintro w2 ⟨⟨_, hb2⟩, rfl⟩
  clear hg
  go_wp2
  go_ret
  exact ⟨rfl, ((Below.refl _ _).alloc (Nat.le_refl _) _).trans (hb2.mono (by simp))⟩
theorem has (c : Cfg) (h : c.Wf) (i n : Int) (w : World) : Calls Try.prog 114 #[cv c, .int .i64 i, .int .i64 n] w fun e w' => e = .returned (.bool (hasB c i n)) ∧ Below w.heap.size w w' := by
  cases hv : okB c
  · have HK : RowKit.Hid (hasB c i n = false) := Lib.hid (by simp [hasB, hv])
    go_enter Try.func114, Try.ntmps114
    go_wp2_with (go_at_call 111; refine (valid c h _).mono ?_; rintro e w1 ⟨rfl, hb1⟩)
    go_ret
    exact ⟨ret_bool HK.out.symm, ((Below.refl _ _).alloc (Nat.le_refl _) _).trans (hb1.mono (by simp))⟩
  · by_cases h0 : 0 ≤ i
    · by_cases h1 : i < n
      · have HK : RowKit.Hid (hasB c i n = true) := Lib.hid (by simp [hasB, hv, h0, h1])
        go_enter Try.func114, Try.ntmps114
        go_wp2_with (go_at_call 111; refine (valid c h _).mono ?_; rintro e w1 ⟨rfl, hb1⟩)
        go_ret
        exact ⟨ret_bool HK.out.symm, ((Below.refl _ _).alloc (Nat.le_refl _) _).trans (hb1.mono (by simp))⟩
      · have HK : RowKit.Hid (hasB c i n = false) := Lib.hid (by simp [hasB, hv, h0, h1])
        go_enter Try.func114, Try.ntmps114
        go_wp2_with (go_at_call 111; refine (valid c h _).mono ?_; rintro e w1 ⟨rfl, hb1⟩)
        go_ret
        exact ⟨ret_bool (by rw [HK.out]; simpa using h1), ((Below.refl _ _).alloc (Nat.le_refl _) _).trans (hb1.mono (by simp))⟩
    · have HK : RowKit.Hid (hasB c i n = false) := Lib.hid (by simp [hasB, hv, h0])
      go_enter Try.func114, Try.ntmps114
      go_wp2_with (go_at_call 111; refine (valid c h _).mono ?_; rintro e w1 ⟨rfl, hb1⟩)
      go_ret
      exact ⟨ret_bool HK.out.symm, ((Below.refl _ _).alloc (Nat.le_refl _) _).trans (hb1.mono (by simp))⟩
theorem total (c : Cfg) (h : c.Wf) (w : World) : Calls Try.prog 67 #[cv c] w fun e w' => e = .returned (.int .i64 (tot c)) ∧ Below w.heap.size w w' := by
  cases hv : okB c
  · have HK : RowKit.Hid (tot c = 0) := Lib.hid (by simp [tot, hv])
    go_enter Try.func67, Try.ntmps67
    go_wp2_with (go_at_call 111; refine (valid c h _).mono ?_; rintro e w1 ⟨rfl, hb1⟩)
    go_ret
    exact ⟨ret_int HK.out.symm, ((Below.refl _ _).alloc (Nat.le_refl _) _).trans (hb1.mono (by simp))⟩
  · obtain ⟨ht, h0, h1⟩ := tot_ok hv
    have HK := Lib.hid ht
    clear ht
    go_enter Try.func67, Try.ntmps67
    go_wp2_with (go_at_call 111; refine (valid c h _).mono ?_; rintro e w1 ⟨rfl, hb1⟩; obtain ⟨hc1, hf1⟩ := bcell hb1)
    go_ret
    exact ⟨ret_int HK.out.symm, ((Below.refl _ _).alloc (Nat.le_refl _) _).trans (hb1.mono (by simp))⟩
theorem announce (c : Cfg) (h : c.Wf) (i : Int) (w : World) : Calls Try.prog 115 #[cv c, .int .i64 i] w fun e w' => e = .returned (.int .i64 (aAnn c i)) ∧ Below w.heap.size w w' := by
  cases hv : hasB c i c.ww
  · have HK : RowKit.Hid (aAnn c i = -1) := Lib.hid (by rw [aAnn, if_neg (by rw [hv]; decide)])
    go_enter Try.func115, Try.ntmps115
    go_wp2_with (go_at_call 114; refine (has c h _ _ _).mono ?_; rintro e w1 ⟨rfl, hb1⟩; obtain ⟨hc1, hf1⟩ := bcell hb1)
    go_ret
    exact ⟨ret_int HK.out.symm, ((Below.refl _ _).alloc (Nat.le_refl _) _).trans (hb1.mono (by simp))⟩
  · obtain ⟨ho, h0, h1⟩ := hasB_spec hv
    have hk := okB_ok ho
    obtain ⟨hw0, hw1⟩ := hk.ww
    obtain ⟨hs0, hs1⟩ := hk.sl
    obtain ⟨he0, he1⟩ := hk.en
    have HK : RowKit.Hid (aAnn c i = 3 + i) := Lib.hid (by rw [aAnn, if_pos hv])
    clear ho
    go_enter Try.func115, Try.ntmps115
    go_wp2_with (go_at_call 114; refine (has c h _ _ _).mono ?_; rintro e w1 ⟨rfl, hb1⟩; obtain ⟨hc1, hf1⟩ := bcell hb1)
    go_ret
    exact ⟨ret_int HK.out.symm, ((Below.refl _ _).alloc (Nat.le_refl _) _).trans (hb1.mono (by simp))⟩
theorem slab (c : Cfg) (h : c.Wf) (i : Int) (w : World) : Calls Try.prog 87 #[cv c, .int .i64 i] w fun e w' => e = .returned (.int .i64 (aSlab c i)) ∧ Below w.heap.size w w' := by
  cases hv : hasB c i c.sl
  · have HK : RowKit.Hid (aSlab c i = -1) := Lib.hid (by rw [aSlab, if_neg (by rw [hv]; decide)])
    go_enter Try.func87, Try.ntmps87
    go_wp2_with (first | (go_at_call 114; refine (has c h _ _ _).mono ?_; rintro e w1 ⟨rfl, hb1⟩; obtain ⟨hc1, hf1⟩ := bcell hb1) | (go_at_call 131; refine (slabsAt c hk _).mono ?_; rintro e w2 ⟨rfl, hb2⟩))
    go_ret
    exact ⟨ret_int HK.out.symm, ((Below.refl _ _).alloc (Nat.le_refl _) _).trans (hb1.mono (by simp))⟩
  · obtain ⟨ho, h0, h1⟩ := hasB_spec hv
    have hk := okB_ok ho
    obtain ⟨hw0, hw1⟩ := hk.ww
    obtain ⟨hs0, hs1⟩ := hk.sl
    obtain ⟨he0, he1⟩ := hk.en
    have HK : RowKit.Hid (aSlab c i = 3 + c.ww + i) := Lib.hid (by rw [aSlab, if_pos hv])
    clear ho
    go_enter Try.func87, Try.ntmps87
    go_wp2_with (first | (go_at_call 114; refine (has c h _ _ _).mono ?_; rintro e w1 ⟨rfl, hb1⟩; obtain ⟨hc1, hf1⟩ := bcell hb1) | (go_at_call 131; refine (slabsAt c hk _).mono ?_; rintro e w2 ⟨rfl, hb2⟩))
    go_ret
    exact ⟨ret_int HK.out.symm, (((Below.refl _ _).alloc (Nat.le_refl _) _).trans (hb1.mono (by simp))).trans (hb2.mono (by have := hb1.size; simp at this; omega))⟩
theorem entry (c : Cfg) (h : c.Wf) (i : Int) (w : World) : Calls Try.prog 97 #[cv c, .int .i64 i] w fun e w' => e = .returned (.int .i64 (aEnt c i)) ∧ Below w.heap.size w w' := by
  cases hv : hasB c i c.en
  · have HK : RowKit.Hid (aEnt c i = -1) := Lib.hid (by rw [aEnt, if_neg (by rw [hv]; decide)])
    go_enter Try.func97, Try.ntmps97
    go_wp2_with (first | (go_at_call 114; refine (has c h _ _ _).mono ?_; rintro e w1 ⟨rfl, hb1⟩; obtain ⟨hc1, hf1⟩ := bcell hb1) | (go_at_call 139; refine (entriesAt c hk _).mono ?_; rintro e w2 ⟨rfl, hb2⟩))
    go_ret
    exact ⟨ret_int HK.out.symm, ((Below.refl _ _).alloc (Nat.le_refl _) _).trans (hb1.mono (by simp))⟩
  · obtain ⟨ho, h0, h1⟩ := hasB_spec hv
    have hk := okB_ok ho
    obtain ⟨hw0, hw1⟩ := hk.ww
    obtain ⟨hs0, hs1⟩ := hk.sl
    obtain ⟨he0, he1⟩ := hk.en
    have HK : RowKit.Hid (aEnt c i = 3 + c.ww + c.sl + 2 * i) := Lib.hid (by rw [aEnt, if_pos hv])
    clear ho
    go_enter Try.func97, Try.ntmps97
    go_wp2_with (first | (go_at_call 114; refine (has c h _ _ _).mono ?_; rintro e w1 ⟨rfl, hb1⟩; obtain ⟨hc1, hf1⟩ := bcell hb1) | (go_at_call 139; refine (entriesAt c hk _).mono ?_; rintro e w2 ⟨rfl, hb2⟩))
    go_ret
    exact ⟨ret_int HK.out.symm, (((Below.refl _ _).alloc (Nat.le_refl _) _).trans (hb1.mono (by simp))).trans (hb2.mono (by have := hb1.size; simp at this; omega))⟩
theorem entryLink (c : Cfg) (h : c.Wf) (i : Int) (w : World) : Calls Try.prog 68 #[cv c, .int .i64 i] w fun e w' => e = .returned (.int .i64 (aEnl c i)) ∧ Below w.heap.size w w' := by
  cases hv : hasB c i c.en
  · have HK : RowKit.Hid (aEnl c i = -1) := Lib.hid (by rw [aEnl, if_neg (by rw [hv]; decide)])
    go_enter Try.func68, Try.ntmps68
    go_wp2_with (first | (go_at_call 114; refine (has c h _ _ _).mono ?_; rintro e w1 ⟨rfl, hb1⟩; obtain ⟨hc1, hf1⟩ := bcell hb1) | (go_at_call 97; refine (entry c h _ _).mono ?_; rintro e w2 ⟨rfl, hb2⟩))
    go_ret
    exact ⟨ret_int HK.out.symm, ((Below.refl _ _).alloc (Nat.le_refl _) _).trans (hb1.mono (by simp))⟩
  · obtain ⟨ho, h0, h1⟩ := hasB_spec hv
    have hk := okB_ok ho
    obtain ⟨hw0, hw1⟩ := hk.ww
    obtain ⟨hs0, hs1⟩ := hk.sl
    obtain ⟨he0, he1⟩ := hk.en
    have HK : RowKit.Hid (aEnl c i = 3 + c.ww + c.sl + 2 * i + 1) := Lib.hid (by rw [aEnl, if_pos hv])
    have he : aEnt c i = 3 + c.ww + c.sl + 2 * i := by rw [aEnt, if_pos hv]
    clear ho
    go_enter Try.func68, Try.ntmps68
    go_wp2_with (first | (go_at_call 114; refine (has c h _ _ _).mono ?_; rintro e w1 ⟨rfl, hb1⟩; obtain ⟨hc1, hf1⟩ := bcell hb1) | (go_at_call 97; refine (entry c h _ _).mono ?_; rintro e w2 ⟨rfl, hb2⟩))
    go_ret
    exact ⟨ret_int HK.out.symm, (((Below.refl _ _).alloc (Nat.le_refl _) _).trans (hb1.mono (by simp))).trans (hb2.mono (by have := hb1.size; simp at this; omega))⟩
theorem blockLink (c : Cfg) (h : c.Wf) (i : Int) (w : World) : Calls Try.prog 66 #[cv c, .int .i64 i] w fun e w' => e = .returned (.int .i64 (aBlk c i)) ∧ Below w.heap.size w w' := by
  cases hv : hasB c i (tot c)
  · have HK : RowKit.Hid (aBlk c i = -1) := Lib.hid (by rw [aBlk, if_neg (by rw [hv]; decide)])
    go_enter Try.func66, Try.ntmps66
    go_wp2
    refine wp_region_grown (by kernel_rfl) (by kernel_rfl) ?_
    have hg := @gcell
    repeat (go_big_quiet_step (first | exact grown_of (total c h _) | exact grown_of (has c h _ _ _)))
    refine wpQuiet_nil ?_
    rintro w2 ⟨⟨_, hb2⟩, rfl⟩
    clear hg
    go_wp2
    go_ret
    exact ⟨ret_int HK.out.symm, ((Below.refl _ _).alloc (Nat.le_refl _) _).trans (hb2.mono (by simp))⟩
  · obtain ⟨ho, h0, h1⟩ := hasB_spec hv
    have hk := okB_ok ho
    have ht := tot_range c
    obtain ⟨hw0, hw1⟩ := hk.ww
    obtain ⟨hs0, hs1⟩ := hk.sl
    obtain ⟨he0, he1⟩ := hk.en
    obtain ⟨hd0, hd1⟩ := hk.wd
    obtain ⟨hm0, hm1⟩ := mul_range (a := i) (b := 1 + c.wd) (A := 128) (B := 5) h0 (by omega) (by omega) (by omega)
    have HK : RowKit.Hid (aBlk c i = 3 + c.ww + c.sl + 2 * c.en + i * (1 + c.wd)) := Lib.hid (by rw [aBlk, if_pos hv])
    clear ho
    go_enter Try.func66, Try.ntmps66
    go_wp2
    refine wp_region_grown (by kernel_rfl) (by kernel_rfl) ?_
    have hg := @gcell
    repeat (go_big_quiet_step (first | exact grown_of (total c h _) | exact grown_of (has c h _ _ _)))
    refine wpQuiet_nil ?_
    rintro w2 ⟨⟨_, hb2⟩, rfl⟩
    clear hg
    obtain ⟨hc1, hf1⟩ := bcell hb2
    have hz : w.heap.size < w2.heap.size := by have := hb2.size; simp at this; omega
    go_wp2
    refine wp_region_grown (by kernel_rfl) (by kernel_rfl) ?_
    have hg := @gcell
    repeat (go_big_quiet_step (first | exact grown_of (blocksAt c hk _) | exact grown_of (blockSize c hk _)))
    refine wpQuiet_nil ?_
    rintro w3 ⟨⟨_, hb3⟩, rfl⟩
    clear hg
    go_wp2
    go_ret
    exact ⟨ret_int HK.out.symm, (((Below.refl _ _).alloc (Nat.le_refl _) _).trans (hb2.mono (by simp))).trans (hb3.mono (by have := hb2.size; simp at this; omega))⟩
theorem home (c : Cfg) (h : c.Wf) (i : Int) (w : World) : Calls Try.prog 145 #[cv c, .int .i64 i] w fun e w' => e = .returned (.int .i64 (aHom c i)) ∧ Below w.heap.size w w' := by
  cases hv : hasB c i (tot c)
  · have HK : RowKit.Hid (aHom c i = -1) := Lib.hid (by rw [aHom, if_neg (by rw [hv]; decide)])
    go_enter Try.func145, Try.ntmps145
    go_wp2
    refine wp_region_grown (by kernel_rfl) (by kernel_rfl) ?_
    have hg := @gcell
    repeat (go_big_quiet_step (first | exact grown_of (total c h _) | exact grown_of (has c h _ _ _)))
    refine wpQuiet_nil ?_
    rintro w2 ⟨⟨_, hb2⟩, rfl⟩
    clear hg
    go_wp2
    go_ret
    exact ⟨ret_int HK.out.symm, ((Below.refl _ _).alloc (Nat.le_refl _) _).trans (hb2.mono (by simp))⟩
  · obtain ⟨ho, h0, h1⟩ := hasB_spec hv
    have hk := okB_ok ho
    have ht := tot_range c
    obtain ⟨hs0, hs1⟩ := hk.bl
    have hne : (c.bl == 0) = false := by simp; omega
    have HK : RowKit.Hid (aHom c i = i / c.bl) := Lib.hid (by rw [aHom, if_pos hv])
    clear ho
    go_enter Try.func145, Try.ntmps145
    go_wp2
    refine wp_region_grown (by kernel_rfl) (by kernel_rfl) ?_
    have hg := @gcell
    repeat (go_big_quiet_step (first | exact grown_of (total c h _) | exact grown_of (has c h _ _ _)))
    refine wpQuiet_nil ?_
    rintro w2 ⟨⟨_, hb2⟩, rfl⟩
    clear hg
    obtain ⟨hc1, hf1⟩ := bcell hb2
    have hz : w.heap.size < w2.heap.size := by have := hb2.size; simp at this; omega
    go_wp2
    go_ret
    exact ⟨ret_int HK.out.symm, ((Below.refl _ _).alloc (Nat.le_refl _) _).trans (hb2.mono (by simp))⟩
theorem size (c : Cfg) (h : c.Wf) (w : World) : Calls Try.prog 65 #[cv c] w fun e w' => e = .returned (.int .i64 (siz c)) ∧ Below w.heap.size w w' := by
  cases hv : okB c
  · have HK : RowKit.Hid (siz c = 0) := Lib.hid (by simp [siz, hv])
    go_enter Try.func65, Try.ntmps65
    go_wp2_with (go_at_call 111; refine (valid c h _).mono ?_; rintro e w1 ⟨rfl, hb1⟩)
    go_ret
    exact ⟨ret_int HK.out.symm, ((Below.refl _ _).alloc (Nat.le_refl _) _).trans (hb1.mono (by simp))⟩
  · obtain ⟨ht, h0, h1⟩ := tot_ok hv
    have hk := okB_ok hv
    obtain ⟨hw0, hw1⟩ := hk.ww
    obtain ⟨hs0, hs1⟩ := hk.sl
    obtain ⟨he0, he1⟩ := hk.en
    obtain ⟨hd0, hd1⟩ := hk.wd
    rw [← ht] at h0 h1
    have HK : RowKit.Hid (siz c = 3 + c.ww + c.sl + 2 * c.en + tot c * (1 + c.wd)) := Lib.hid (by rw [siz, if_pos hv, ht])
    obtain ⟨hm0, hm1⟩ := mul_range (a := tot c) (b := 1 + c.wd) (A := 128) (B := 5) h0 h1 (by omega) (by omega)
    clear ht
    go_enter Try.func65, Try.ntmps65
    go_wp2_with (go_at_call 111; refine (valid c h _).mono ?_; rintro e w1 ⟨rfl, hb1⟩; obtain ⟨hc1, hf1⟩ := bcell hb1)
    have hz : w.heap.size < w1.heap.size := by have := hb1.size; simp at this; omega
    refine wp_region_grown (by kernel_rfl) (by kernel_rfl) ?_
    have hg := @gcell
    repeat (go_big_quiet_step (first | exact grown_of (blocksAt c hk _) | exact grown_of (blockSize c hk _) | exact grown_of (total c h _)))
    refine wpQuiet_nil ?_
    rintro w3 ⟨⟨_, hb3⟩, rfl⟩
    clear hg
    go_wp2
    go_ret
    exact ⟨ret_int HK.out.symm, (((Below.refl _ _).alloc (Nat.le_refl _) _).trans (hb1.mono (by simp))).trans (hb3.mono (by omega))⟩
theorem newPlan (c : Cfg) (h : c.Wf) (w : World) : Calls Try.prog 64 #[cv c] w fun e w' => e = .returned (.tuple #[cv (nc c), .int .i64 (chk c)]) ∧ Below w.heap.size w w' := by
  by_cases hv : chk c = 0
  · skip
    have hB' : (chk c != 0) = false := by simp [hv]
    have HK : RowKit.Hid (nc c = c) := Lib.hid (by rw [nc, if_pos hv])
    have HZ := Lib.hid hv
    clear hv
    go_enter Try.func64, Try.ntmps64
    go_wp2_with (first | (go_at_call 110; refine (check c h _).mono ?_; rintro e w1 ⟨rfl, hb1⟩; obtain ⟨hc1, hf1⟩ := bcell hb1; have hz : w.heap.size + 1 < w1.heap.size := (by have := hb1.size; simp at this; omega); have HG := Lib.hid ((hb1.block (w.heap.size + 1) (by simp)).trans (heap_alloc2_new _ _ _))) | (refine wpList_store_row rfl _ _ _ rfl (w.heap.size + 1) #[.int .i64 c.ww, .int .i64 c.sl, .int .i64 c.bl, .int .i64 c.wd, .int .i64 c.en, .int .i64 c.rk, .int .i64 c.bg, .int .u64 c.la] rfl rfl _ _ HG.out (by kernel_rfl) (by kernel_rfl) (by kernel_rfl) ?_))
    refine bodyPost_ret (v := .tuple #[cv (nc c), .int .i64 (chk c)]) ?_ rfl ⟨rfl, below_setRow ((((Below.refl _ _).alloc (Nat.le_refl _) _).alloc (by simp) _).trans (hb1.mono (by simp; omega))) (by omega) _⟩
    rw [HK.out, HZ.out]
    exact Rw.results_cell_slot (p := 2) (q := 3) (ty := 91) Try.results64 _ _ (w.heap.size + 1) 91 _ (0, 0) _ rfl (setRow_heap _ _ _ #[.int .i64 c.ww, .int .i64 c.sl, .int .i64 c.bl, .int .i64 c.wd, .int .i64 c.en, .int .i64 c.rk, .int .i64 c.bg, .int .u64 c.la] _ _ HG.out) Try.underlying91 rfl (by kernel_rfl)
  · skip
    have hB' : (chk c != 0) = true := by simp [hv]
    have HK : RowKit.Hid (nc c = ⟨0, 0, 0, 0, 0, 0, 0, 0⟩) := Lib.hid (by rw [nc, if_neg hv])
    clear hv
    go_enter Try.func64, Try.ntmps64
    go_wp2_with (first | (go_at_call 110; refine (check c h _).mono ?_; rintro e w1 ⟨rfl, hb1⟩; obtain ⟨hc1, hf1⟩ := bcell hb1; have hz : w.heap.size + 1 < w1.heap.size := (by have := hb1.size; simp at this; omega); have HG := Lib.hid ((hb1.block (w.heap.size + 1) (by simp)).trans (heap_alloc2_new _ _ _))) | (refine wpList_store_row rfl _ _ _ rfl (w.heap.size + 1) #[.int .i64 0, .int .i64 0, .int .i64 0, .int .i64 0, .int .i64 0, .int .i64 0, .int .i64 0, .int .u64 0] rfl rfl _ _ HG.out (by kernel_rfl) (by kernel_rfl) (by kernel_rfl) ?_))
    refine bodyPost_ret (v := .tuple #[cv (nc c), .int .i64 (chk c)]) ?_ rfl ⟨rfl, below_setRow ((((Below.refl _ _).alloc (Nat.le_refl _) _).alloc (by simp) _).trans (hb1.mono (by simp; omega))) (by omega) _⟩
    rw [HK.out]
    exact Rw.results_cell_slot (p := 2) (q := 3) (ty := 91) Try.results64 _ _ (w.heap.size + 1) 91 _ (0, 0) _ rfl (setRow_heap _ _ _ #[.int .i64 0, .int .i64 0, .int .i64 0, .int .i64 0, .int .i64 0, .int .i64 0, .int .i64 0, .int .u64 0] _ _ HG.out) Try.underlying91 rfl (by kernel_rfl)
end Go.Proofs.Yticgpikpefgldaa.Pl
