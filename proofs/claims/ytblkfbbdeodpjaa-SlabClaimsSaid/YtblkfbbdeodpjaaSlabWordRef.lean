/- The reference's Word; both put together (made by genword.py). -/
import Derived.Test.YtblkfbbdeodpjaaSlabWord
namespace Go.Proofs.Ytblkfbbdeodpjaa.Me
open Go Go.RowKit Go.Proofs.Ytblkfbbdeodpjaa.Gro Go.Proofs.Ytblkfbbdeodpjaa.Own Go.Proofs.Ytblkfbbdeodpjaa.Wd Go.Proofs.Ytblkfbbdeodpjaa.Ap Go.Proofs.Ytblkfbbdeodpjaa.Pl Go.Proofs.Ytblkfbbdeodpjaa.Wo
set_option linter.unusedVariables false
set_option linter.unusedSimpArgs false
set_option maxRecDepth 10000 in
set_option maxHeartbeats 4000000 in
theorem rword_bad (c : Cfg) (hf : c.Wf) (ad : Option Addr) (n cap : Nat) (k : Int) (h : chk c ≠ 0) (w : World) : Calls Try.prog 85 #[cv c, .slice ad n cap, .int .i64 k] w (InsQ 0 false w) := by
  have C0 := Bk.new w (ccM c) 24
  have hw0 : Below w.heap.size w (w.alloc (.cells (ccM c) 24)) := (Below.refl _ _).alloc (Nat.le_refl _) _
  have HC := Lib.hid (refCheck c hf)
  have hne : (chk c != 0) = true := by simp [h]
  clear h
  go_enter Try.func85, Try.ntmps85
  go_wp2_with (first | (refine wpList_load_row rfl 24 _ rfl w.heap.size rfl _ (ccM c) (0, 0) _ (by exact C0) Try.underlying24 rfl (by kernel_rfl) ?_) | (refine wpList_load_row_w rfl 24 _ rfl w.heap.size rfl _ (ccM c) (0, 0) _ (by exact C0) Try.underlying24 rfl (by kernel_rfl) ?_))
  refine (HC.out _).mono ?_
  rintro e w1 ⟨rfl, hb1⟩
  have hw1 := hw0.trans (hb1.mono hw0.size)
  have C1 := C0.keep hb1
  clear hw0 hb1 C0
  go_wp2
  go_ret2
  exact ⟨rfl, hw1⟩
set_option maxRecDepth 10000 in
set_option maxHeartbeats 4000000 in
theorem rword_len (c : Cfg) (hf : c.Wf) (ad : Option Addr) (n cap : Nat) (k : Int) (h : chk c = 0) (hs : (n : Int) ≠ siz c) (w : World) : Calls Try.prog 85 #[cv c, .slice ad n cap, .int .i64 k] w (InsQ 0 false w) := by
  have C0 := Bk.new w (ccM c) 24
  have hw0 : Below w.heap.size w (w.alloc (.cells (ccM c) 24)) := (Below.refl _ _).alloc (Nat.le_refl _) _
  have HC := Lib.hid (fun w => h ▸ refCheck c hf w)
  have HA := Lib.hid (refAll c (chk_ok.1 h))
  have HSL := Lib.hid (spots_len (chk_ok.1 h))
  have HS := Lib.hid hs
  clear hs
  go_enter Try.func85, Try.ntmps85
  go_wp2_with (first | (refine wpList_load_row rfl 24 _ rfl w.heap.size rfl _ (ccM c) (0, 0) _ (by exact C0) Try.underlying24 rfl (by kernel_rfl) ?_) | (refine wpList_load_row_w rfl 24 _ rfl w.heap.size rfl _ (ccM c) (0, 0) _ (by exact C0) Try.underlying24 rfl (by kernel_rfl) ?_))
  refine (HC.out _).mono ?_
  rintro e w1 ⟨rfl, hb1⟩
  have hw1 := hw0.trans (hb1.mono hw0.size)
  have C1 := C0.keep hb1
  clear hw0 hb1 C0
  go_wp2_with (first | (refine wpList_load_row rfl 24 _ rfl w.heap.size rfl _ (ccM c) (0, 0) _ (by exact C1) Try.underlying24 rfl (by kernel_rfl) ?_) | (refine wpList_load_row_w rfl 24 _ rfl w.heap.size rfl _ (ccM c) (0, 0) _ (by exact C1) Try.underlying24 rfl (by kernel_rfl) ?_))
  refine (HA.out _).mono ?_
  rintro e w2 ⟨z, rfl, hz, hb2⟩
  obtain ⟨y, rfl, hyl⟩ := owns_slI hz
  have hw2 := hw1.trans (hb2.mono hw1.size)
  have C2 := C1.keep hb2
  have x2 := C2.cells
  have hne : ((n : Int) != (y.len : Int)) = true := by have := HS.out; have := HSL.out; simp; omega
  clear hz hb2 C1 hw1 hyl
  go_wp2
  go_ret2
  exact ⟨rfl, hw2⟩
set_option maxRecDepth 10000 in
set_option maxHeartbeats 4000000 in
theorem rword_neg (c : Cfg) (hf : c.Wf) (ad : Option Addr) (n cap : Nat) (k : Int) (h : chk c = 0) (hs : (n : Int) = siz c) (hk : k < 0) (w : World) : Calls Try.prog 85 #[cv c, .slice ad n cap, .int .i64 k] w (InsQ 0 false w) := by
  have C0 := Bk.new w (ccM c) 24
  have hw0 : Below w.heap.size w (w.alloc (.cells (ccM c) 24)) := (Below.refl _ _).alloc (Nat.le_refl _) _
  have HC := Lib.hid (fun w => h ▸ refCheck c hf w)
  have HA := Lib.hid (refAll c (chk_ok.1 h))
  have HSL := Lib.hid (spots_len (chk_ok.1 h))
  have HS := Lib.hid hs
  have hd : decide (k < 0) = true := by simp [hk]
  clear hs
  go_enter Try.func85, Try.ntmps85
  go_wp2_with (first | (refine wpList_load_row rfl 24 _ rfl w.heap.size rfl _ (ccM c) (0, 0) _ (by exact C0) Try.underlying24 rfl (by kernel_rfl) ?_) | (refine wpList_load_row_w rfl 24 _ rfl w.heap.size rfl _ (ccM c) (0, 0) _ (by exact C0) Try.underlying24 rfl (by kernel_rfl) ?_))
  refine (HC.out _).mono ?_
  rintro e w1 ⟨rfl, hb1⟩
  have hw1 := hw0.trans (hb1.mono hw0.size)
  have C1 := C0.keep hb1
  clear hw0 hb1 C0
  go_wp2_with (first | (refine wpList_load_row rfl 24 _ rfl w.heap.size rfl _ (ccM c) (0, 0) _ (by exact C1) Try.underlying24 rfl (by kernel_rfl) ?_) | (refine wpList_load_row_w rfl 24 _ rfl w.heap.size rfl _ (ccM c) (0, 0) _ (by exact C1) Try.underlying24 rfl (by kernel_rfl) ?_))
  refine (HA.out _).mono ?_
  rintro e w2 ⟨z, rfl, hz, hb2⟩
  obtain ⟨y, rfl, hyl⟩ := owns_slI hz
  have hw2 := hw1.trans (hb2.mono hw1.size)
  have C2 := C1.keep hb2
  have x2 := C2.cells
  have hne : ((n : Int) != (y.len : Int)) = false := by have := HS.out; have := HSL.out; simp; omega
  clear hz hb2 C1 hw1 hyl
  go_wp2
  go_ret2
  exact ⟨rfl, hw2⟩
set_option maxRecDepth 10000 in
set_option maxHeartbeats 4000000 in
theorem rword_big (c : Cfg) (hf : c.Wf) (ad : Option Addr) (n cap : Nat) (k : Int) (h : chk c = 0) (hs : (n : Int) = siz c) (h0 : 0 ≤ k) (hk : c.sl ≤ k) (w : World) : Calls Try.prog 85 #[cv c, .slice ad n cap, .int .i64 k] w (InsQ 0 false w) := by
  have C0 := Bk.new w (ccM c) 24
  have hw0 : Below w.heap.size w (w.alloc (.cells (ccM c) 24)) := (Below.refl _ _).alloc (Nat.le_refl _) _
  have HC := Lib.hid (fun w => h ▸ refCheck c hf w)
  have HA := Lib.hid (refAll c (chk_ok.1 h))
  have HSL := Lib.hid (spots_len (chk_ok.1 h))
  have HS := Lib.hid hs
  have hd : decide (k < 0) = false := by simp; omega
  have hd2 : decide (c.sl ≤ k) = true := by simp [hk]
  clear hs
  go_enter Try.func85, Try.ntmps85
  go_wp2_with (first | (refine wpList_load_row rfl 24 _ rfl w.heap.size rfl _ (ccM c) (0, 0) _ (by exact C0) Try.underlying24 rfl (by kernel_rfl) ?_) | (refine wpList_load_row_w rfl 24 _ rfl w.heap.size rfl _ (ccM c) (0, 0) _ (by exact C0) Try.underlying24 rfl (by kernel_rfl) ?_))
  refine (HC.out _).mono ?_
  rintro e w1 ⟨rfl, hb1⟩
  have hw1 := hw0.trans (hb1.mono hw0.size)
  have C1 := C0.keep hb1
  clear hw0 hb1 C0
  go_wp2_with (first | (refine wpList_load_row rfl 24 _ rfl w.heap.size rfl _ (ccM c) (0, 0) _ (by exact C1) Try.underlying24 rfl (by kernel_rfl) ?_) | (refine wpList_load_row_w rfl 24 _ rfl w.heap.size rfl _ (ccM c) (0, 0) _ (by exact C1) Try.underlying24 rfl (by kernel_rfl) ?_))
  refine (HA.out _).mono ?_
  rintro e w2 ⟨z, rfl, hz, hb2⟩
  obtain ⟨y, rfl, hyl⟩ := owns_slI hz
  have hw2 := hw1.trans (hb2.mono hw1.size)
  have C2 := C1.keep hb2
  have x2 := C2.cells
  have hne : ((n : Int) != (y.len : Int)) = false := by have := HS.out; have := HSL.out; simp; omega
  clear hz hb2 C1 hw1 hyl
  go_wp2
  go_ret2
  exact ⟨rfl, hw2⟩
set_option maxRecDepth 10000 in
set_option maxHeartbeats 4000000 in
theorem rword_in (c : Cfg) (hf : c.Wf) (ad : Option Addr) (n cap : Nat) (k : Int) (h : chk c = 0) (hs : (n : Int) = siz c) (h0 : 0 ≤ k) (h1 : k < c.sl) (v : Int) (w : World) (j : Nat) (hj : (j : Int) = 3 + c.ww + k) (hjn : j < n) (b0 off : Nat) (had : ad = some ⟨b0, off, none⟩) (hb0 : b0 < w.heap.size) (hc : w.cell? ⟨b0, off + j, none⟩ = some (.int .u64 v)) : Calls Try.prog 85 #[cv c, .slice ad n cap, .int .i64 k] w (InsQ v true w) := by
  have C0 := Bk.new w (ccM c) 24
  have hw0 : Below w.heap.size w (w.alloc (.cells (ccM c) 24)) := (Below.refl _ _).alloc (Nat.le_refl _) _
  have HC := Lib.hid (fun w => h ▸ refCheck c hf w)
  have HA := Lib.hid (refAll c (chk_ok.1 h))
  have HSL := Lib.hid (spots_len (chk_ok.1 h))
  have HS := Lib.hid hs
  have hd : decide (k < 0) = false := by simp; omega
  have hd2 : decide (c.sl ≤ k) = false := by simp; omega
  have hww := (chk_ok.1 h).ww
  have hsl := (chk_ok.1 h).sl
  have hsum0 : IntKind.i64.wrap (3 + c.ww) = 3 + c.ww := IntWalk.i64_in _ (by omega)
  have hsum : IntKind.i64.wrap (3 + c.ww + k) = (j : Int) := by rw [IntWalk.i64_in _ (by omega)]; omega
  subst had
  clear hs
  go_enter Try.func85, Try.ntmps85
  go_wp2_with (first | (refine wpList_load_row rfl 24 _ rfl w.heap.size rfl _ (ccM c) (0, 0) _ (by exact C0) Try.underlying24 rfl (by kernel_rfl) ?_) | (refine wpList_load_row_w rfl 24 _ rfl w.heap.size rfl _ (ccM c) (0, 0) _ (by exact C0) Try.underlying24 rfl (by kernel_rfl) ?_))
  refine (HC.out _).mono ?_
  rintro e w1 ⟨rfl, hb1⟩
  have hw1 := hw0.trans (hb1.mono hw0.size)
  have C1 := C0.keep hb1
  clear hw0 hb1 C0
  go_wp2_with (first | (refine wpList_load_row rfl 24 _ rfl w.heap.size rfl _ (ccM c) (0, 0) _ (by exact C1) Try.underlying24 rfl (by kernel_rfl) ?_) | (refine wpList_load_row_w rfl 24 _ rfl w.heap.size rfl _ (ccM c) (0, 0) _ (by exact C1) Try.underlying24 rfl (by kernel_rfl) ?_))
  refine (HA.out _).mono ?_
  rintro e w2 ⟨z, rfl, hz, hb2⟩
  obtain ⟨y, rfl, hyl⟩ := owns_slI hz
  have hw2 := hw1.trans (hb2.mono hw1.size)
  have C2 := C1.keep hb2
  have x2 := C2.cells
  have hne : ((n : Int) != (y.len : Int)) = false := by have := HS.out; have := HSL.out; simp; omega
  clear hz hb2 C1 hw1 hyl
  have q := (hw2.cell (p := ⟨b0, off + j, none⟩) hb0).trans hc
  clear hc hj h0 h1
  go_wp2
  go_ret2
  exact ⟨rfl, hw2⟩
/-- The ways of both, at one input. -/
theorem word_ways {c : Cfg} {L : List Int} {v : Sl} {w : World} (hr : Reads w .u64 v.v L) (hL : ∀ x ∈ L, 0 ≤ x ∧ x < 18446744073709551616) (k : Int) :
    (chk c ≠ 0) ∨ (chk c = 0 ∧ (v.len : Int) ≠ siz c) ∨ (chk c = 0 ∧ (v.len : Int) = siz c ∧ ¬ (0 ≤ k ∧ k < c.sl)) ∨ (chk c = 0 ∧ (v.len : Int) = siz c ∧ 0 ≤ k ∧ k < c.sl ∧ ∃ x j b0 off, 0 ≤ x ∧ x < 18446744073709551616 ∧ L.getD (3 + c.ww.toNat + k.toNat) 0 = x ∧ ((j : Nat) : Int) = 3 + c.ww + k ∧ j < v.len ∧ v.ad = some ⟨b0, off, none⟩ ∧ b0 < w.heap.size ∧ w.cell? ⟨b0, off + j, none⟩ = some (.int .u64 x)) := by
  by_cases h : chk c = 0
  · by_cases hs : (v.len : Int) = siz c
    · by_cases hk : 0 ≤ k ∧ k < c.sl
      · refine .inr (.inr (.inr ⟨h, hs, hk.1, hk.2, ?_⟩))
        have hln := reads_len hr
        have hok := chk_ok.1 h
        have hww := hok.ww
        have hz : 3 + c.ww + k < siz c := by
          have h1 := hok.sl
          have h2 := hok.en
          have h3 := hok.bl
          have h4 := hok.wd
          have := mul_range (a := c.sl) (b := c.bl) (A := 8) (B := 16) (by omega) (by omega) (by omega) (by omega)
          have := mul_range (a := c.sl * c.bl) (b := 1 + c.wd) (A := 128) (B := 5) (by omega) (by omega) (by omega) (by omega)
          rw [siz, if_pos (okB_of_ok hok)]
          omega
        have hj : 3 + c.ww.toNat + k.toNat < L.length := by omega
        obtain ⟨ad, cap, e, _, _, h3⟩ := hr
        rcases h3 with rfl | ⟨b0, off, rfl, hb0, hc⟩
        · simp at hj
        · have e2 : v.ad = some ⟨b0, off, none⟩ := by
            obtain ⟨va, vl, vc⟩ := v
            simp only [Sl.v, Value.slice.injEq] at e
            exact e.1
          have hx := hL _ (List.getElem_mem hj)
          refine ⟨L[3 + c.ww.toNat + k.toNat], 3 + c.ww.toNat + k.toNat, b0, off, hx.1, hx.2, ?_, by omega, by omega, e2, hb0, hc _ hj⟩
          rw [List.getD_eq_getElem?_getD, List.getElem?_eq_getElem hj]
          rfl
      · exact .inr (.inr (.inl ⟨h, hs, hk⟩))
    · exact .inr (.inl ⟨h, hs⟩)
  · exact .inl h
theorem word (c : Cfg) (hf : c.Wf) {L : List Int} {v : Sl} {w : World} (hr : Reads w .u64 v.v L) (hL : ∀ x ∈ L, 0 ≤ x ∧ x < 18446744073709551616) (k : Int) : Calls Try.prog 79 #[cv c, v.v, .int .i64 k] w (WrdPost c L k w) := by
  have hln := reads_len hr
  rcases word_ways (c := c) hr hL k with h | ⟨h, hs⟩ | ⟨h, hs, hk⟩ | ⟨h, hs, h0, h1, x, j, b0, off, x0, x1, hx, hj, hjn, had, hb0, hc⟩
  · have hno := wrd_no (c := c) (L := L) (k := k) (fun q => h q.1)
    exact wrd_post (word_bad c hf _ _ _ k h w) hno.2 hno.1
  · have hno := wrd_no (c := c) (L := L) (k := k) (fun q => hs (by rw [hln]; exact q.2.1))
    exact wrd_post (word_len c hf _ _ _ k h hs w) hno.2 hno.1
  · have hno := wrd_no (c := c) (L := L) (k := k) (fun q => hk ⟨q.2.2.1, q.2.2.2⟩)
    exact wrd_post (word_out c hf _ _ _ k h hs hk w) hno.2 hno.1
  · have hy := wrd_yes (c := c) (L := L) (k := k) ⟨h, by rw [← hln]; exact hs, h0, h1⟩
    exact wrd_post (word_in c hf _ _ _ k h hs h0 h1 x w j hj hjn b0 off had hb0 hc) (by rw [hy.2, hx]) hy.1
theorem rword (c : Cfg) (hf : c.Wf) {L : List Int} {v : Sl} {w : World} (hr : Reads w .u64 v.v L) (hL : ∀ x ∈ L, 0 ≤ x ∧ x < 18446744073709551616) (k : Int) : Calls Try.prog 85 #[cv c, v.v, .int .i64 k] w (WrdPost c L k w) := by
  have hln := reads_len hr
  rcases word_ways (c := c) hr hL k with h | ⟨h, hs⟩ | ⟨h, hs, hk⟩ | ⟨h, hs, h0, h1, x, j, b0, off, x0, x1, hx, hj, hjn, had, hb0, hc⟩
  · have hno := wrd_no (c := c) (L := L) (k := k) (fun q => h q.1)
    exact wrd_post (rword_bad c hf _ _ _ k h w) hno.2 hno.1
  · have hno := wrd_no (c := c) (L := L) (k := k) (fun q => hs (by rw [hln]; exact q.2.1))
    exact wrd_post (rword_len c hf _ _ _ k h hs w) hno.2 hno.1
  · have hno := wrd_no (c := c) (L := L) (k := k) (fun q => hk ⟨q.2.2.1, q.2.2.2⟩)
    by_cases hq : k < 0
    · exact wrd_post (rword_neg c hf _ _ _ k h hs hq w) hno.2 hno.1
    · exact wrd_post (rword_big c hf _ _ _ k h hs (by omega) (by omega) w) hno.2 hno.1
  · have hy := wrd_yes (c := c) (L := L) (k := k) ⟨h, by rw [← hln]; exact hs, h0, h1⟩
    exact wrd_post (rword_in c hf _ _ _ k h hs h0 h1 x w j hj hjn b0 off had hb0 hc) (by rw [hy.2, hx]) hy.1
end Go.Proofs.Ytblkfbbdeodpjaa.Me
