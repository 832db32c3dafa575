/- The law PlanTells, walked. -/
import Derived.Test.YtdjfkgclgikalaaRefHome
import Derived.Test.YtdjfkgclgikalaaGrowTail
import Derived.Test.YtdjfkgclgikalaaBk
namespace Go.Proofs.Ytdjfkgclgikalaa.Pl
open Go Go.RowKit Go.Proofs.Ytdjfkgclgikalaa.Gro Go.Proofs.Ytdjfkgclgikalaa.Own
set_option linter.unusedVariables false
set_option linter.unusedSimpArgs false

abbrev cc (c : Cfg) : Array Value := #[.int .i64 c.ww, .int .i64 c.sl, .int .i64 c.bl, .int .i64 c.wd, .int .i64 c.en, .int .i64 c.rk, .int .i64 c.bg, .int .u64 c.la]
theorem build_plan (c : Cfg) (w : World) : (Instr.build 28 #[(0, cv c)]).run Try.prog w = .ok (cv c) w := run_build w _ _ _ (by kernel_rfl)
theorem build_plan0 (w : World) : (Instr.build 28 #[]).run Try.prog w = .ok (cv ⟨0, 0, 0, 0, 0, 0, 0, 0⟩) w := run_build w _ _ _ (by kernel_rfl)
theorem neq_plan0 (w : World) : (binOp .neq 28 (cv ⟨0, 0, 0, 0, 0, 0, 0, 0⟩) (cv ⟨0, 0, 0, 0, 0, 0, 0, 0⟩)).run Try.prog w = .ok (.bool false) w := by kernel_rfl
theorem guard28 : Try.prog.eqGuardType Try.prog.depth 28 = false := by kernel_rfl
def vk (c : Cfg) (a b : Int) : Nat → Int
  | 0 => aAnn c a | 1 => aSlab c a | 2 => aEnt c a | 3 => aEnl c a | 4 => aBlk c a | _ => aWrd c a b
abbrev vks (c : Cfg) (a b : Int) : Array Value := #[.int .i64 (aAnn c a), .int .i64 (aSlab c a), .int .i64 (aEnt c a), .int .i64 (aEnl c a), .int .i64 (aBlk c a), .int .i64 (aWrd c a b)]
theorem vks_at (c : Cfg) (a b : Int) : ∀ k, k < 6 → (vks c a b)[k]? = some (.int .i64 (vk c a b k))
  | 0, _ => rfl | 1, _ => rfl | 2, _ => rfl | 3, _ => rfl | 4, _ => rfl | 5, _ => rfl
theorem vk_at (c : Cfg) (a b : Int) : ∀ k : Nat, k < 5 → vk c a b k = refAt c ((k : Int) + 1, a, 0)
  | 0, _ => (refAt_all c a b).1.symm | 1, _ => (refAt_all c a b).2.1.symm | 2, _ => (refAt_all c a b).2.2.1.symm | 3, _ => (refAt_all c a b).2.2.2.1.symm | 4, _ => (refAt_all c a b).2.2.2.2.1.symm
theorem cs8 {c : Cfg} {w : World} {g : Nat} {t : TypeId} (h : Bk w g (cc c) t) : w.cell? ⟨g, 0, none⟩ = some (.int .i64 c.ww) ∧ w.cell? ⟨g, 1, none⟩ = some (.int .i64 c.sl) ∧ w.cell? ⟨g, 2, none⟩ = some (.int .i64 c.bl) ∧ w.cell? ⟨g, 3, none⟩ = some (.int .i64 c.wd) ∧ w.cell? ⟨g, 4, none⟩ = some (.int .i64 c.en) ∧ w.cell? ⟨g, 5, none⟩ = some (.int .i64 c.rk) ∧ w.cell? ⟨g, 6, none⟩ = some (.int .i64 c.bg) ∧ w.cell? ⟨g, 7, none⟩ = some (.int .u64 c.la) :=
  ⟨h.cells 0, h.cells 1, h.cells 2, h.cells 3, h.cells 4, h.cells 5, h.cells 6, h.cells 7⟩
set_option maxHeartbeats 2000000 in
theorem planTells_ok (c : Cfg) (h : c.Wf) (hk : Ok c) (a b : Int) (w : World) : Calls Try.prog 3 #[cv c, .int .i64 a, .int .i64 b] w fun e w' => e = .returned (.bool true) ∧ Below w.heap.size w w' := by
  have hv := chk_ok.2 hk
  have hn : nc c = c := by rw [nc, if_pos hv]
  have hp := newPlan c h
  rw [hn, hv] at hp
  have hr := refCheck c h
  rw [hv] at hr
  have hch := check c h
  rw [hv] at hch
  have HP := Lib.hid hp
  have HR := Lib.hid hr
  have HCH := Lib.hid hch
  have hbp := build_plan c
  clear hp hr hch hn hv
  go_enter Try.func3, Try.ntmps3
  go_wp2_with fail
  refine (awake2 _).mono ?_
  rintro e w1 ⟨rfl, hb1⟩
  have B1 := (Bk.new w (cc c) 24).keep hb1
  have x1 := B1.cells
  go_wp2_with fail
  refine (HR.out _).mono ?_
  rintro e w2 ⟨rfl, hb2⟩
  have B2 := B1.keep hb2
  have x2 := B2.cells
  clear x1
  go_wp2_with fail
  refine (HP.out _).mono ?_
  rintro e w3 ⟨rfl, hb3⟩
  have B3 := (B2.keep hb3)
  have x3 := B3.cells
  have l3 := B3.lt
  clear x2
  go_wp2_with fail
  refine (HCH.out _).mono ?_
  rintro e w4 ⟨rfl, hb4⟩
  have B4 := (B3.alloc _).keep hb4
  have P4 := (Bk.new w3 (cc c) 28).keep hb4
  have x4 := B4.cells
  have y4 := P4.cells
  have f4 := P4.frozen
  have l4 := B4.lt
  have m4 := P4.lt
  clear x3
  go_wp2_with (refine wpList_store_row rfl _ _ _ rfl w3.heap.size (cc c) rfl rfl _ _ P4 (by kernel_rfl) (by kernel_rfl) (by kernel_rfl) ?_)
  have B5 := B4.setRow_far (g' := w3.heap.size) (by omega) (cc c)
  have P5 := P4.setRow (cc c)
  have hw5 : Below w.heap.size w (w4.setRow w3.heap.size (cc c)) := below_setRow ((((((((Below.refl _ _).alloc (Nat.le_refl _) _).trans (hb1.mono (by simp))).trans (hb2.mono (by have := B1.lt; omega))).trans (hb3.mono (by have := B2.lt; omega))).alloc (by omega) _).trans (hb4.mono (by simp; omega)))) (by omega) _
  clear x4 y4 f4 B4 P4 B3 B2 B1 hb1 hb2 hb3 hb4 l3 l4 m4
  generalize hg3 : w3.heap.size = g3 at *
  clear hg3
  generalize w4.setRow g3 (cc c) = w5 at *
  have x5 := B5.cells
  have hpos : 0 < (spots c).length := by have := spots_len hk; have := tot_ok (okB_of_ok hk); unfold spots; rw [S4_len]; omega
  obtain ⟨hs0, hs1⟩ := hk.sl
  obtain ⟨hl0, hl1⟩ := hk.bl
  obtain ⟨hm0, hm1⟩ := mul_range (a := c.sl) (b := c.bl) (A := 8) (B := 16) (by omega) hs1 (by omega) hl1
  go_region_held3 (fun w' => w'.cell? ⟨w.heap.size, 0, none⟩ = some (.int .i64 c.ww) ∧ w'.cell? ⟨w.heap.size, 1, none⟩ = some (.int .i64 c.sl) ∧ w'.cell? ⟨w.heap.size, 2, none⟩ = some (.int .i64 c.bl) ∧ w'.cell? ⟨w.heap.size, 3, none⟩ = some (.int .i64 c.wd) ∧ w'.cell? ⟨w.heap.size, 4, none⟩ = some (.int .i64 c.en) ∧ w'.cell? ⟨w.heap.size, 5, none⟩ = some (.int .i64 c.rk) ∧ w'.cell? ⟨w.heap.size, 6, none⟩ = some (.int .i64 c.bg) ∧ w'.cell? ⟨w.heap.size, 7, none⟩ = some (.int .u64 c.la)) (first | exact cs8 (w := w5.drew) B5 | exact cs8 (Bk.keep (w := w5.drew) B5 (by assumption))) ((go_at_call 18; refine (refAll c hk _).mono ?_; rintro e w6 ⟨v, rfl, hown, hb6⟩; obtain ⟨g6, cap6, rfl, _⟩ := owns_cells hown hpos))
  have B6 := Bk.keep (w := w5.drew) B5 hb6
  have P6 := Bk.keep (w := w5.drew) P5 hb6
  have hw6 : Below w.heap.size w w6 := (Below.drew hw5).trans (hb6.mono (show w.heap.size ≤ w5.heap.size from Nat.le_of_lt B5.lt))
  have hsz : (siz c != ((spots c).length : Int)) = false := by rw [spots_len hk]; simp
  have htt : (tot c != c.sl * c.bl) = false := by rw [(tot_ok (okB_of_ok hk)).1]; simp
  have x6 := B6.cells
  have y6 := P6.cells
  have l6 := B6.lt
  have m6 := P6.lt
  clear x5 B5 P5 hb6 hown hw5 hbp HP HR HCH
  go_wp2
  refine wp_region_grown (by kernel_rfl) (by kernel_rfl) ?_
  have hg := @gcell
  repeat (go_big_quiet_step (first | exact grown_of (size c h _) | exact grown_of (total c h _) | exact grown_of (home c h _ _) | exact grown_of (refHome c h _ _)))
  refine wpQuiet_nil ?_
  rintro w7 ⟨⟨_, hb7⟩, rfl⟩
  have B7 := B6.keep hb7
  have P7 := P6.keep hb7
  have hw7 := hw6.trans (hb7.mono (by omega))
  have x7 := B7.cells
  have y7 := P7.cells
  have l7 := B7.lt
  have m7 := P7.lt
  clear x6 y6 B6 P6 hb7 hw6 l6 m6 hsz htt
  go_wp2
  refine wp_region_grown_tail 19 (by kernel_rfl) (by kernel_rfl) ?_
  simp only [List.take_succ_cons, List.take_zero, List.drop_succ_cons, List.drop_zero]
  repeat (go_big_quiet_step (first | exact grown_of (announce c h _ _) | exact grown_of (slab c h _ _) | exact grown_of (entry c h _ _) | exact grown_of (entryLink c h _ _) | exact grown_of (blockLink c h _ _) | exact grown_of (word c h _ _ _)))
  refine wpQuiet_nil ?_
  rintro w8 ⟨⟨_, hb8⟩, rfl⟩
  clear hg
  have B8 := B7.keep hb8
  have hw8 := hw7.trans (hb8.mono (by omega))
  have x8 := B8.cells
  have l8 := B8.lt
  clear x7 y7 B7 P7 hb8 hw7 l7 m7
  go_wp2
  go_loopw [13] (fun i wr => ∃ k : Nat, k ≤ 6 ∧ i = .int .i64 k ∧ Bk wr w.heap.size (cc c) 24 ∧ Bk wr w8.heap.size (vks c a b) 3 ∧ Below w.heap.size w wr) (fun i _ => 6 - (intOf i).toNat)
  case atStart => exact ⟨0, by omega, rfl, B8.alloc _, Bk.new w8 (vks c a b) 3, hw8.alloc hw8.size _⟩
  case round =>
    obtain ⟨k, hk6, rfl, BC, BA, hwr⟩ := hrel
    clear x8
    have xc := BC.cells
    have lc := BC.lt
    have la := BA.lt
    by_cases hlt : k < 6
    · have hi0 : (0 : Int) ≤ (k : Int) := by omega
      have hi1 : (k : Int) < 6 := by omega
      have ak : wr.cell? ⟨w8.heap.size, k, none⟩ = some (.int .i64 (vk c a b k)) := (BA.cells k).trans (vks_at c a b k hlt)
      by_cases h5 : k = 5
      · subst h5
        have hne : (vk c a b 5 != refAt c (6, a, b)) = false := by rw [(refAt_all c a b).2.2.2.2.2]; simp [vk]
        have hr := refAt_walk c h (6, a, b)
        have HR := Lib.hid hr
        clear hr
        go_wp2
        refine wp_region_grown (by kernel_rfl) (by kernel_rfl) ?_
        have hg := @gcell
        repeat (go_big_quiet_step (exact grown_of (HR.out _)))
        refine wpQuiet_nil ?_
        rintro w9 ⟨⟨_, hb9⟩, rfl⟩
        clear hg
        go_wp2
        go_roundw
        case rel => exact ⟨6, by omega, rfl, (BC.alloc _).keep hb9, (BA.alloc _).keep hb9, (hwr.alloc hwr.size _).trans (hb9.mono (by have := hwr.size; simp; omega))⟩
        case measure => simp [intOf]
      · have h5' : ((k : Int) == 5) = false := by simp; omega
        have hne : (vk c a b k != refAt c ((k : Int) + 1, a, 0)) = false := by rw [vk_at c a b k (by omega)]; simp
        have hr := refAt_walk c h ((k : Int) + 1, a, 0)
        have HR := Lib.hid hr
        clear hr
        go_wp2
        refine wp_region_grown (by kernel_rfl) (by kernel_rfl) ?_
        have hg := @gcell
        repeat (go_big_quiet_step (exact grown_of (HR.out _)))
        refine wpQuiet_nil ?_
        rintro w9 ⟨⟨_, hb9⟩, rfl⟩
        clear hg
        go_wp2
        go_roundw
        case rel => exact ⟨k + 1, by omega, by go_num, (BC.alloc _).keep hb9, (BA.alloc _).keep hb9, (hwr.alloc hwr.size _).trans (hb9.mono (by have := hwr.size; simp; omega))⟩
        case measure => simp [intOf]; omega
    · obtain rfl : k = 6 := by omega
      go_wp2
      go_ret
      exact ⟨rfl, hwr⟩

abbrev z8 : Cfg := ⟨0, 0, 0, 0, 0, 0, 0, 0⟩
set_option maxHeartbeats 2000000 in
theorem planTells_no (c : Cfg) (h : c.Wf) (hk : chk c ≠ 0) (a b : Int) (w : World) : Calls Try.prog 3 #[cv c, .int .i64 a, .int .i64 b] w fun e w' => e = .returned (.bool true) ∧ Below w.heap.size w w' := by
  have hn : nc c = z8 := by rw [nc, if_neg hk]
  have hp := newPlan c h
  rw [hn] at hp
  have HP := Lib.hid hp
  have hv1 : (chk c != 0) = true := by simp [hk]
  have hv2 : (chk c == 0) = false := by simp [hk]
  have hbp := build_plan c
  have hb0 := build_plan0
  have hn0 := neq_plan0
  have hgd := guard28
  clear hp hn
  go_enter Try.func3, Try.ntmps3
  go_wp2_with fail
  refine (awake2 _).mono ?_
  rintro e w1 ⟨rfl, hb1⟩
  have B1 := (Bk.new w (cc c) 24).keep hb1
  have x1 := B1.cells
  go_wp2_with fail
  refine (refCheck c h _).mono ?_
  rintro e w2 ⟨rfl, hb2⟩
  have B2 := B1.keep hb2
  have x2 := B2.cells
  clear x1
  go_wp2_with fail
  refine (HP.out _).mono ?_
  rintro e w3 ⟨rfl, hb3⟩
  have B3 := (B2.keep hb3)
  have x3 := B3.cells
  have l3 := B3.lt
  clear x2
  go_wp2_with fail
  refine (check c h _).mono ?_
  rintro e w4 ⟨rfl, hb4⟩
  have B4 := (B3.alloc _).keep hb4
  have P4 := (Bk.new w3 (cc z8) 28).keep hb4
  have x4 := B4.cells
  have y4 := P4.cells
  have f4 := P4.frozen
  have l4 := B4.lt
  have m4 := P4.lt
  clear x3
  go_wp2_with (refine wpList_store_row rfl _ _ _ rfl w3.heap.size (cc c) rfl rfl _ _ P4 (by kernel_rfl) (by kernel_rfl) (by kernel_rfl) ?_)
  have B5 := B4.setRow_far (g' := w3.heap.size) (by omega) (cc c)
  have P5 := P4.setRow (cc c)
  have hw5 : Below w.heap.size w (w4.setRow w3.heap.size (cc c)) := below_setRow ((((((((Below.refl _ _).alloc (Nat.le_refl _) _).trans (hb1.mono (by simp))).trans (hb2.mono (by have := B1.lt; omega))).trans (hb3.mono (by have := B2.lt; omega))).alloc (by omega) _).trans (hb4.mono (by simp; omega)))) (by omega) _
  clear x4 y4 f4 B4 P4 B3 B2 B1 hb1 hb2 hb3 hb4 l3 l4 m4
  generalize hg3 : w3.heap.size = g3 at *
  clear hg3
  generalize w4.setRow g3 (cc c) = w6 at *
  have hsz : (siz c != 0) = false := by simp [siz, okB_false hk]
  have htt : (tot c != 0) = false := by simp [tot, okB_false hk]
  have x6 := B5.cells
  have y6 := P5.cells
  have l6 := B5.lt
  have m6 := P5.lt
  clear hbp HP hb0 hn0 hgd
  go_wp2
  refine wp_region_grown (by kernel_rfl) (by kernel_rfl) ?_
  have hg := @gcell
  repeat (go_big_quiet_step (first | exact grown_of (size c h _) | exact grown_of (total c h _) | exact grown_of (home c h _ _) | exact grown_of (refHome c h _ _)))
  refine wpQuiet_nil ?_
  rintro w7 ⟨⟨_, hb7⟩, rfl⟩
  have B7 := B5.keep hb7
  have P7 := P5.keep hb7
  have hw7 := hw5.trans (hb7.mono (by omega))
  have x7 := B7.cells
  have y7 := P7.cells
  have l7 := B7.lt
  have m7 := P7.lt
  clear x6 y6 B5 P5 hb7 hw5 l6 m6 hsz htt
  go_wp2
  refine wp_region_grown_tail 19 (by kernel_rfl) (by kernel_rfl) ?_
  simp only [List.take_succ_cons, List.take_zero, List.drop_succ_cons, List.drop_zero]
  repeat (go_big_quiet_step (first | exact grown_of (announce c h _ _) | exact grown_of (slab c h _ _) | exact grown_of (entry c h _ _) | exact grown_of (entryLink c h _ _) | exact grown_of (blockLink c h _ _) | exact grown_of (word c h _ _ _)))
  refine wpQuiet_nil ?_
  rintro w8 ⟨⟨_, hb8⟩, rfl⟩
  clear hg
  have B8 := B7.keep hb8
  have hw8 := hw7.trans (hb8.mono (by omega))
  have x8 := B8.cells
  have l8 := B8.lt
  clear x7 y7 B7 P7 hb8 hw7 l7 m7 hv1 hv2
  go_wp2
  go_loopw [13] (fun i wr => ∃ k : Nat, k ≤ 6 ∧ i = .int .i64 k ∧ Bk wr w.heap.size (cc c) 24 ∧ Bk wr w8.heap.size (vks c a b) 3 ∧ Below w.heap.size w wr) (fun i _ => 6 - (intOf i).toNat)
  case atStart => exact ⟨0, by omega, rfl, B8.alloc _, Bk.new w8 (vks c a b) 3, hw8.alloc hw8.size _⟩
  case round =>
    obtain ⟨k, hk6, rfl, BC, BA, hwr⟩ := hrel
    clear x8
    have xc := BC.cells
    have lc := BC.lt
    have la := BA.lt
    by_cases hlt : k < 6
    · have hi0 : (0 : Int) ≤ (k : Int) := by omega
      have hi1 : (k : Int) < 6 := by omega
      have ak : wr.cell? ⟨w8.heap.size, k, none⟩ = some (.int .i64 (vk c a b k)) := (BA.cells k).trans (vks_at c a b k hlt)
      by_cases h5 : k = 5
      · subst h5
        have hne : (vk c a b 5 != refAt c (6, a, b)) = false := by rw [(refAt_all c a b).2.2.2.2.2]; simp [vk]
        have hr := refAt_walk c h (6, a, b)
        have HR := Lib.hid hr
        clear hr
        go_wp2
        refine wp_region_grown (by kernel_rfl) (by kernel_rfl) ?_
        have hg := @gcell
        repeat (go_big_quiet_step (exact grown_of (HR.out _)))
        refine wpQuiet_nil ?_
        rintro w9 ⟨⟨_, hb9⟩, rfl⟩
        clear hg
        go_wp2
        go_roundw
        case rel => exact ⟨6, by omega, rfl, (BC.alloc _).keep hb9, (BA.alloc _).keep hb9, (hwr.alloc hwr.size _).trans (hb9.mono (by have := hwr.size; simp; omega))⟩
        case measure => simp [intOf]
      · have h5' : ((k : Int) == 5) = false := by simp; omega
        have hne : (vk c a b k != refAt c ((k : Int) + 1, a, 0)) = false := by rw [vk_at c a b k (by omega)]; simp
        have hr := refAt_walk c h ((k : Int) + 1, a, 0)
        have HR := Lib.hid hr
        clear hr
        go_wp2
        refine wp_region_grown (by kernel_rfl) (by kernel_rfl) ?_
        have hg := @gcell
        repeat (go_big_quiet_step (exact grown_of (HR.out _)))
        refine wpQuiet_nil ?_
        rintro w9 ⟨⟨_, hb9⟩, rfl⟩
        clear hg
        go_wp2
        go_roundw
        case rel => exact ⟨k + 1, by omega, by go_num, (BC.alloc _).keep hb9, (BA.alloc _).keep hb9, (hwr.alloc hwr.size _).trans (hb9.mono (by have := hwr.size; simp; omega))⟩
        case measure => simp [intOf]; omega
    · obtain rfl : k = 6 := by omega
      go_wp2
      go_ret
      exact ⟨rfl, hwr⟩
theorem planTells (c : Cfg) (h : c.Wf) (a b : Int) (w : World) : Calls Try.prog 3 #[cv c, .int .i64 a, .int .i64 b] w fun e w' => e = .returned (.bool true) ∧ Below w.heap.size w w' := by
  by_cases hv : chk c = 0
  · exact planTells_ok c h (chk_ok.1 hv) a b w
  · exact planTells_no c h hv a b w
end Go.Proofs.Ytdjfkgclgikalaa.Pl
