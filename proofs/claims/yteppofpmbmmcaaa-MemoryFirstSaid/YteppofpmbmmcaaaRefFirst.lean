/- The reference's First, walked. -/
import Derived.Test.YteppofpmbmmcaaaPlanFirstWalks
namespace Go.Proofs.Yteppofpmbmmcaaa.Pl
open Go Go.RowKit Go.Proofs.Yteppofpmbmmcaaa.Gro Go.Proofs.Yteppofpmbmmcaaa.Own Go.Proofs.Yteppofpmbmmcaaa.Wd
set_option linter.unusedVariables false
set_option linter.unusedSimpArgs false

theorem elem44 : Elem Try.prog 37 22 1 8 := ⟨Try.underlying37, by
  obtain ⟨i, h1, h2, h3, h4⟩ := info22
  exact ⟨i, _, h1, h2, h3, h4, rfl⟩, by decide, by decide⟩
theorem spot_range {c : Cfg} (h : Ok c) {s : Spot} (hs : s ∈ spots c) : 0 ≤ s.2.1 ∧ (s.1 = 4 → s.2.1 < 32) := by
  have he := h.en
  rw [spots_eq] at hs
  rcases List.mem_append.1 hs with hs | hs
  · rcases List.mem_append.1 hs with hs | hs
    · rcases List.mem_append.1 hs with hs | hs
      · rcases List.mem_append.1 hs with hs | hs
        · simp [S0] at hs; rcases hs with rfl | rfl | rfl <;> simp
        · have := mem_M1 hs; omega
      · have := mem_M2 hs; omega
    · have h3 := mem_M3 hs
      obtain ⟨a, ha, hs⟩ := List.mem_flatMap.1 hs
      have := List.mem_range.1 ha
      refine ⟨h3.2.2, fun _ => ?_⟩
      simp at hs; rcases hs with rfl | rfl <;> (simp only; omega)
  · have := mem_M4 hs; omega
theorem fv_ways (N : Int) (s : Spot) :
    (fv N s = 2 ∧ (s.1 == 0) = true ∧ (s.2.1 == 0) = true ∧ (s.2.1 == 2) = false ∧ (s.1 == 3) = false ∧ (s.1 == 4) = false ∧ True) ∨
    (fv N s = 1 ∧ (s.1 == 0) = true ∧ (s.2.1 == 0) = false ∧ (s.2.1 == 2) = true ∧ (s.1 == 3) = false ∧ (s.1 == 4) = false ∧ True) ∨
    (fv N s = 0 ∧ (s.1 == 0) = true ∧ (s.2.1 == 0) = false ∧ (s.2.1 == 2) = false ∧ (s.1 == 3) = false ∧ (s.1 == 4) = false ∧ True) ∨
    (fv N s = 1048576 ∧ (s.1 == 0) = false ∧ True ∧ True ∧ (s.1 == 3) = true ∧ (s.1 == 4) = false ∧ True) ∨
    (fv N s = s.2.1 + 2 ∧ (s.1 == 0) = false ∧ True ∧ True ∧ (s.1 == 3) = false ∧ (s.1 == 4) = true ∧ s.2.1 < N - 1) ∨
    (fv N s = 0 ∧ (s.1 == 0) = false ∧ True ∧ True ∧ (s.1 == 3) = false ∧ (s.1 == 4) = true ∧ decide (s.2.1 < N - 1) = false) ∨
    (fv N s = 0 ∧ (s.1 == 0) = false ∧ True ∧ True ∧ (s.1 == 3) = false ∧ (s.1 == 4) = false ∧ True) := by
  unfold fv
  by_cases h0 : s.1 = 0
  · by_cases ha : s.2.1 = 0
    · left; simp [h0, ha]
    · by_cases hb : s.2.1 = 2
      · right; left; simp [h0, hb]
      · right; right; left; simp [h0, ha, hb]
  · by_cases h3 : s.1 = 3
    · right; right; right; left; simp [h3]
    · by_cases h4 : s.1 = 4
      · by_cases h5 : s.2.1 < N - 1
        · right; right; right; right; left; simp [h4, h5]
        · right; right; right; right; right; left; simp [h4, h5]
      · right; right; right; right; right; right; simp [h0, h3, h4]
theorem one1 {a : Int} : ∀ u ∈ [Value.int .u64 a], u.oneCell' = true := by simp [Value.oneCell']
theorem owns_base {w : World} {base B : Nat} {e : TypeId} {size : Nat} {v : Value} {n : Nat} {xs : List Value} (h : w.ownsRow base e size v n xs) (hb : B ≤ base) : w.ownsRow B e size v n xs := by
  refine ⟨h.1, ?_⟩
  rcases h.2 with h0 | ⟨g, cap, cur, rfl, hge, rest⟩
  · exact .inl h0
  · exact .inr ⟨g, cap, cur, rfl, Nat.le_trans hb hge, rest⟩
theorem fin_own (L : List Spot) (N : Int) (k : Nat) (hk : k < L.length) {w : World} {B : Nat} {e : TypeId} {v : Value} {y : Int} (h : w.ownsRow B e 1 v (k + 1) ((((L.take k).map (fv N)).map (Value.int .u64)) ++ [.int .u64 y])) (hy : fv N L[k] = y) :
    w.ownsRow B e 1 v (k + 1) (((L.take (k + 1)).map (fv N)).map (Value.int .u64)) := by
  refine owns_len h rfl ?_
  rw [List.take_succ_eq_append_getElem hk, List.map_append, List.map_append, ← hy]
  rfl
theorem drewN_alloc {a w : World} (h : Below a.heap.size a w) (n : Nat) (o : Obj) : Below a.heap.size a ((w.drewN n).alloc o) := (gro_drewN h).alloc h.size o
set_option maxRecDepth 100000 in
set_option maxHeartbeats 4000000 in
theorem refFirst_ok (c : Cfg) (h : Ok c) (hf : c.Wf) (w : World) : Calls Try.prog 43 #[cv c] w fun e w' => ∃ v, e = .returned v ∧ w'.ownsRow w.heap.size 22 1 v (first c).length ((first c).map (Value.int .u64)) ∧ Below w.heap.size w w' := by
  have hv := chk_ok.2 h
  have hr := refCheck c hf
  rw [hv] at hr
  have HR := Lib.hid hr
  obtain ⟨he0, he1⟩ := h.en
  have hpos : 0 < (spots c).length := by unfold spots; rw [S4_len]; omega
  have hmax : (spots c).length ≤ 1000 := by
    have h1 := spots_len h
    have h2 := tot_ok (okB_of_ok h)
    have h3 := h.ww
    have h4 := h.sl
    have h5 := h.wd
    rw [siz, if_pos (okB_of_ok h)] at h1
    have := mul_range (a := c.sl * c.bl) (b := 1 + c.wd) (A := 128) (B := 5) h2.2.1 h2.2.2 (by omega) (by omega)
    omega
  have HSP : RowKit.Hid (∀ s ∈ spots c, 0 ≤ s.2.1 ∧ (s.1 = 4 → s.2.1 < 32)) := Lib.hid (fun s hs => spot_range h hs)
  clear hr hv
  go_enter Try.func43, Try.ntmps43
  go_wp2_with fail
  refine (HR.out _).mono ?_
  rintro e w1 ⟨rfl, hb1⟩
  have B1 := (Bk.new w (cc c) 24).keep hb1
  have x1 := B1.cells
  go_wp2_with fail
  refine (refAll c h _).mono ?_
  rintro e w2 ⟨v, rfl, hown, hb2⟩
  obtain ⟨g, cap, rfl, hg0, hg1, hcap, hmx, hcells⟩ := owns_cells hown hpos
  have B2 := B1.keep hb2
  have x2 := B2.cells
  have hw2 : Below w.heap.size w w2 := ((Below.refl _ _).alloc (Nat.le_refl _) _).trans ((hb1.mono (by simp)).trans (hb2.mono (by have := B1.lt; omega)))
  have HC := Lib.hid hcells
  unfold maxLen at hmx
  clear x1 B1 hb1 hb2 hown hcells
  have HF : RowKit.Hid (first c = (spots c).map (fv c.en)) := Lib.hid rfl
  generalize spots c = L at *
  go_wp2
  go_loopw [4, 5] (fun v i wr => ∃ k : Nat, k ≤ L.length ∧ i = .int .i64 k ∧ wr.ownsRow w2.heap.size 22 1 v k (((L.take k).map (fv c.en)).map (Value.int .u64)) ∧ Below w2.heap.size w2 wr) (fun _ i _ => L.length - (intOf i).toNat)
  case atStart => exact ⟨0, Nat.zero_le _, rfl, ⟨rfl, .inl ⟨rfl, rfl⟩⟩, Below.refl _ _⟩
  case round =>
    obtain ⟨k, hkl, rfl, hown, hbr⟩ := hrel
    clear x2
    have BR := B2.keep hbr
    have xr := BR.cells
    have lr := hbr.size
    by_cases hlt : k < L.length
    · obtain ⟨q0, q1, q2⟩ := sc_get L k hlt
      have hl3 := sc_length L
      have c0 : wr.cell? ⟨g, k * 3, none⟩ = some (.int .i64 L[k].1) := (hbr.cell (p := ⟨g, k * 3, none⟩) hg1).trans ((HC.out _ (by omega)).trans q0)
      have c1 : wr.cell? ⟨g, k * 3 + 1, none⟩ = some (.int .i64 L[k].2.1) := (hbr.cell (p := ⟨g, k * 3 + 1, none⟩) hg1).trans ((HC.out _ (by omega)).trans q1)
      obtain ⟨hr0, hr4⟩ := HSP.out L[k] (List.getElem_mem hlt)
      clear q0 q1 q2 hl3
      rcases fv_ways c.en L[k] with W | W | W | W | W | W | W
      · obtain ⟨hv, k0, a0, a2, k3, k4, l4⟩ := W
        have HV := Lib.hid hv
        clear hv
        clear hr4
        go_wp2_with (go_at_call 79; refine (Pk.rentry 1 (-1) 0 (by decide) (by decide) _).mono ?_; rw [en100]; rintro e w4 ⟨rfl, rfl⟩)
        go_quiet (fail)
        go_wp2_with (at_builtin; refine append_row elem44 rfl _ _ rfl w2.heap.size _ _ _ rfl (World.ownsRow.alloc (show World.ownsRow (wr.drewN _) w2.heap.size 22 1 _ k _ from hown) _) wr.heap.size 1 1 [.int .u64 2] rfl rfl (new_cells _ _ _) one1 (by decide) (by omega) (by have := hbr.size; simp; omega) ?_; intro v' w' hown2 hb2')
        go_roundw
        case rel => exact ⟨k + 1, by omega, by go_num, fin_own L c.en k hlt hown2 HV.out, (drewN_alloc hbr _ _).trans hb2'⟩
        case measure => simp [intOf]; omega
      · obtain ⟨hv, k0, a0, a2, k3, k4, l4⟩ := W
        have HV := Lib.hid hv
        clear hv
        clear hr4
        go_wp2_with (go_at_call 79; refine (Pk.rentry 1 (-1) 0 (by decide) (by decide) _).mono ?_; rw [en100]; rintro e w4 ⟨rfl, rfl⟩)
        go_quiet (fail)
        go_wp2_with (at_builtin; refine append_row elem44 rfl _ _ rfl w2.heap.size _ _ _ rfl (World.ownsRow.alloc (show World.ownsRow (wr.drewN _) w2.heap.size 22 1 _ k _ from hown) _) wr.heap.size 1 1 [.int .u64 1] rfl rfl (new_cells _ _ _) one1 (by decide) (by omega) (by have := hbr.size; simp; omega) ?_; intro v' w' hown2 hb2')
        go_roundw
        case rel => exact ⟨k + 1, by omega, by go_num, fin_own L c.en k hlt hown2 HV.out, (drewN_alloc hbr _ _).trans hb2'⟩
        case measure => simp [intOf]; omega
      · obtain ⟨hv, k0, a0, a2, k3, k4, l4⟩ := W
        have HV := Lib.hid hv
        clear hv
        clear hr4
        go_wp2_with (go_at_call 79; refine (Pk.rentry 1 (-1) 0 (by decide) (by decide) _).mono ?_; rw [en100]; rintro e w4 ⟨rfl, rfl⟩)
        go_quiet (fail)
        go_wp2_with (at_builtin; refine append_row elem44 rfl _ _ rfl w2.heap.size _ _ _ rfl (World.ownsRow.alloc (show World.ownsRow (wr.drewN _) w2.heap.size 22 1 _ k _ from hown) _) wr.heap.size 1 1 [.int .u64 0] rfl rfl (new_cells _ _ _) one1 (by decide) (by omega) (by have := hbr.size; simp; omega) ?_; intro v' w' hown2 hb2')
        go_roundw
        case rel => exact ⟨k + 1, by omega, by go_num, fin_own L c.en k hlt hown2 HV.out, (drewN_alloc hbr _ _).trans hb2'⟩
        case measure => simp [intOf]; omega
      · obtain ⟨hv, k0, a0, a2, k3, k4, l4⟩ := W
        have HV := Lib.hid hv
        clear hv
        clear hr4
        go_wp2_with (go_at_call 79; refine (Pk.rentry 1 (-1) 0 (by decide) (by decide) _).mono ?_; rw [en100]; rintro e w4 ⟨rfl, rfl⟩)
        go_quiet (fail)
        go_wp2_with (at_builtin; refine append_row elem44 rfl _ _ rfl w2.heap.size _ _ _ rfl (World.ownsRow.alloc (show World.ownsRow (wr.drewN _) w2.heap.size 22 1 _ k _ from hown) _) wr.heap.size 1 1 [.int .u64 1048576] rfl rfl (new_cells _ _ _) one1 (by decide) (by omega) (by have := hbr.size; simp; omega) ?_; intro v' w' hown2 hb2')
        go_roundw
        case rel => exact ⟨k + 1, by omega, by go_num, fin_own L c.en k hlt hown2 HV.out, (drewN_alloc hbr _ _).trans hb2'⟩
        case measure => simp [intOf]; omega
      · obtain ⟨hv, k0, a0, a2, k3, k4, l4⟩ := W
        have HV := Lib.hid hv
        clear hv
        have hr5 := hr4 (by simpa using k4)
        clear hr4
        go_wp2_with (go_at_call 79; refine (Pk.rentry 1 (-1) 0 (by decide) (by decide) _).mono ?_; rw [en100]; rintro e w4 ⟨rfl, rfl⟩)
        go_quiet (fail)
        go_wp2_with (at_builtin; refine append_row elem44 rfl _ _ rfl w2.heap.size _ _ _ rfl (World.ownsRow.alloc (show World.ownsRow (wr.drewN _) w2.heap.size 22 1 _ k _ from hown) _) wr.heap.size 1 1 [.int .u64 (L[k].2.1 + 2)] rfl rfl (new_cells _ _ _) one1 (by decide) (by omega) (by have := hbr.size; simp; omega) ?_; intro v' w' hown2 hb2')
        go_roundw
        case rel => exact ⟨k + 1, by omega, by go_num, fin_own L c.en k hlt hown2 HV.out, (drewN_alloc hbr _ _).trans hb2'⟩
        case measure => simp [intOf]; omega
      · obtain ⟨hv, k0, a0, a2, k3, k4, l4⟩ := W
        have HV := Lib.hid hv
        clear hv
        clear hr4
        go_wp2_with (go_at_call 79; refine (Pk.rentry 1 (-1) 0 (by decide) (by decide) _).mono ?_; rw [en100]; rintro e w4 ⟨rfl, rfl⟩)
        go_quiet (fail)
        go_wp2_with (at_builtin; refine append_row elem44 rfl _ _ rfl w2.heap.size _ _ _ rfl (World.ownsRow.alloc (show World.ownsRow (wr.drewN _) w2.heap.size 22 1 _ k _ from hown) _) wr.heap.size 1 1 [.int .u64 0] rfl rfl (new_cells _ _ _) one1 (by decide) (by omega) (by have := hbr.size; simp; omega) ?_; intro v' w' hown2 hb2')
        go_roundw
        case rel => exact ⟨k + 1, by omega, by go_num, fin_own L c.en k hlt hown2 HV.out, (drewN_alloc hbr _ _).trans hb2'⟩
        case measure => simp [intOf]; omega
      · obtain ⟨hv, k0, a0, a2, k3, k4, l4⟩ := W
        have HV := Lib.hid hv
        clear hv
        clear hr4
        go_wp2_with (go_at_call 79; refine (Pk.rentry 1 (-1) 0 (by decide) (by decide) _).mono ?_; rw [en100]; rintro e w4 ⟨rfl, rfl⟩)
        go_quiet (fail)
        go_wp2_with (at_builtin; refine append_row elem44 rfl _ _ rfl w2.heap.size _ _ _ rfl (World.ownsRow.alloc (show World.ownsRow (wr.drewN _) w2.heap.size 22 1 _ k _ from hown) _) wr.heap.size 1 1 [.int .u64 0] rfl rfl (new_cells _ _ _) one1 (by decide) (by omega) (by have := hbr.size; simp; omega) ?_; intro v' w' hown2 hb2')
        go_roundw
        case rel => exact ⟨k + 1, by omega, by go_num, fin_own L c.en k hlt hown2 HV.out, (drewN_alloc hbr _ _).trans hb2'⟩
        case measure => simp [intOf]; omega
    · obtain rfl : k = L.length := by omega
      go_wp2
      go_ret
      refine ⟨_, rfl, ?_, hw2.trans (hbr.mono hw2.size)⟩
      rw [List.take_length, ← HF.out] at hown
      exact owns_base (owns_len hown (by rw [HF.out]; simp) rfl) hw2.size

theorem refFirst_no (c : Cfg) (h : chk c ≠ 0) (hf : c.Wf) (w : World) : Calls Try.prog 43 #[cv c] w fun e w' => e = .returned (.slice none 0 0) ∧ Below w.heap.size w w' := by
  have hv1 : (chk c != 0) = true := by simp [h]
  clear h
  go_enter Try.func43, Try.ntmps43
  go_wp2_with (go_at_call 27; refine (refCheck c hf _).mono ?_; rintro e w1 ⟨rfl, hb1⟩)
  go_ret
  exact ⟨rfl, ((Below.refl _ _).alloc (Nat.le_refl _) _).trans (hb1.mono (by simp))⟩
/-- Both First functions: a slice that reads as the first contents; what was there is as it was. -/
theorem refFirst (c : Cfg) (hf : c.Wf) (w : World) : Calls Try.prog 43 #[cv c] w fun e w' => ∃ v, e = .returned v ∧ Reads w' .u64 v (firstL c) ∧ Below w.heap.size w w' := by
  by_cases hv : chk c = 0
  · rw [firstL, if_pos hv]
    exact (refFirst_ok c (chk_ok.1 hv) hf w).mono fun e w' ⟨v, h1, h2, h3⟩ => ⟨v, h1, Reads.of_own h2 rfl, h3⟩
  · rw [firstL, if_neg hv]
    exact (refFirst_no c hv hf w).mono fun e w' ⟨h1, h3⟩ => ⟨_, h1, Reads.nil _ _, h3⟩
theorem planFirst (c : Cfg) (hf : c.Wf) (w : World) : Calls Try.prog 78 #[cv c] w fun e w' => ∃ v, e = .returned v ∧ Reads w' .u64 v (firstL c) ∧ Below w.heap.size w w' := by
  by_cases hv : chk c = 0
  · rw [firstL, if_pos hv]
    have hmax : (first c).length ≤ maxLen := by
      have h := chk_ok.1 hv
      have h1 := spots_len h
      have h2 := tot_ok (okB_of_ok h)
      have h3 := h.ww
      have h4 := h.sl
      have h5 := h.wd
      have h6 := h.en
      rw [siz, if_pos (okB_of_ok h)] at h1
      have := mul_range (a := c.sl * c.bl) (b := 1 + c.wd) (A := 128) (B := 5) h2.2.1 h2.2.2 (by omega) (by omega)
      rw [first_len]; unfold maxLen; omega
    exact (planFirst_ok c (chk_ok.1 hv) hf w).mono fun e w' ⟨g, h1, h2, h3, h4⟩ => ⟨_, h1, Reads.of_bk h3 hmax, h4⟩
  · rw [firstL, if_neg hv]
    exact (planFirst_no c hv hf w).mono fun e w' ⟨h1, h3⟩ => ⟨_, h1, Reads.nil _ _, h3⟩
end Go.Proofs.Yteppofpmbmmcaaa.Pl
