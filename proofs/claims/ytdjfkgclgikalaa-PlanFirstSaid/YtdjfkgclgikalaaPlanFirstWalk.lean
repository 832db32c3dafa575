/- The law PlanFirst, walked. -/
import Derived.Test.YtdjfkgclgikalaaRefFirst
import Derived.Deep.RegionHeld3
namespace Go.Proofs.Ytdjfkgclgikalaa.Pl
open Go Go.RowKit Go.Proofs.Ytdjfkgclgikalaa.Gro Go.Proofs.Ytdjfkgclgikalaa.Own Go.Proofs.Ytdjfkgclgikalaa.Wd
set_option linter.unusedVariables false
set_option linter.unusedSimpArgs false

theorem box8 {c : Cfg} {w : World} {g : Nat} {t : TypeId} (h : Bk w g (cc c) t) : w.cell? ⟨g, 0, none⟩ = some (.int .i64 c.ww) ∧ w.cell? ⟨g, 1, none⟩ = some (.int .i64 c.sl) ∧ w.cell? ⟨g, 2, none⟩ = some (.int .i64 c.bl) ∧ w.cell? ⟨g, 3, none⟩ = some (.int .i64 c.wd) ∧ w.cell? ⟨g, 4, none⟩ = some (.int .i64 c.en) ∧ w.cell? ⟨g, 5, none⟩ = some (.int .i64 c.rk) ∧ w.cell? ⟨g, 6, none⟩ = some (.int .i64 c.bg) ∧ w.cell? ⟨g, 7, none⟩ = some (.int .u64 c.la) :=
  ⟨h.cells 0, h.cells 1, h.cells 2, h.cells 3, h.cells 4, h.cells 5, h.cells 6, h.cells 7⟩
theorem dec_self (l : List Int) : decide (l = l) = true := by simp
set_option maxHeartbeats 2000000 in
theorem planFirstLaw_ok (c : Cfg) (h : Ok c) (hf : c.Wf) (w : World) : Calls Try.prog 4 #[cv c] w fun e w' => e = .returned (.bool true) ∧ Below w.heap.size w w' := by
  have hpos : 0 < (first c).length := by rw [first_len]; unfold spots; rw [S4_len]; omega
  have hmax : (first c).length ≤ 1000 := by
    have h1 := spots_len h
    have h2 := tot_ok (okB_of_ok h)
    have h3 := h.ww
    have h4 := h.sl
    have h5 := h.wd
    have h6 := h.en
    rw [siz, if_pos (okB_of_ok h)] at h1
    have := mul_range (a := c.sl * c.bl) (b := 1 + c.wd) (A := 128) (B := 5) h2.2.1 h2.2.2 (by omega) (by omega)
    rw [first_len]; omega
  have HL : RowKit.Hid (firstL c = first c) := Lib.hid (by rw [firstL, if_pos (chk_ok.2 h)])
  go_enter Try.func4, Try.ntmps4
  go_wp2_with fail
  refine (awake2 _).mono ?_
  rintro e w1 ⟨rfl, hb1⟩
  have B1 := (Bk.new w (cc c) 24).keep hb1
  have hw1 : Below w.heap.size w w1 := ((Below.refl _ _).alloc (Nat.le_refl _) _).trans (hb1.mono (by simp))
  have x1 := B1.cells
  go_wp2_with fail
  refine (planFirst_ok c h hf _).mono ?_
  rintro e w2 ⟨g, rfl, hg, A2, hb2⟩
  have B2 := B1.keep hb2
  have hw2 := hw1.trans (hb2.mono hw1.size)
  have x2 := B2.cells
  have hgb : w.heap.size < g := Nat.lt_of_lt_of_le B1.lt hg
  clear x1 B1 hb1 hb2 hg
  go_wp2_with fail
  refine (refFirst c hf _).mono ?_
  rintro e w3 ⟨v3, rfl, R3, hb3⟩
  have A3 := A2.keep hb3
  have B3 := B2.keep hb3
  have hw3 := hw2.trans (hb3.mono hw2.size)
  rw [HL.out] at R3
  clear x2 B2 A2 hb3
  go_wp2_with fail
  refine (same (Reads.of_bk A3 (by unfold maxLen; omega)) R3).mono ?_
  rw [dec_self]
  rintro e w4 ⟨rfl, hb4⟩
  have A4 := A3.keep hb4
  have B4 := B3.keep hb4
  have hw4 := hw3.trans (hb4.mono hw3.size)
  have hgw : w.heap.size ≤ g := by omega
  have hne : w.heap.size ≠ g := by omega
  clear A3 B3 hb4 R3 hw3 hw2 hw1
  have HF : RowKit.Hid (firstL c = first c) := HL
  generalize hL : (first c) = L at A4 hpos hmax ⊢
  clear hL
  go_wp2
  go_loopw [4] (fun i wr => ∃ k : Nat, k ≤ L.length ∧ i = .int .i64 k ∧ Bk wr w.heap.size (cc c) 24 ∧ (∃ xs : List Int, xs.length = L.length ∧ Bk wr g (iv .u64 xs) 22) ∧ Below w.heap.size w wr) (fun i _ => L.length - (intOf i).toNat)
  case atStart => exact ⟨0, Nat.zero_le _, rfl, B4, ⟨L, rfl, A4⟩, hw4⟩
  case round =>
    obtain ⟨k, hk, rfl, BR, ⟨xs, hxs, AR⟩, hwr⟩ := hrel
    have HX := Lib.hid hxs
    clear hxs
    by_cases hlt : k < L.length
    · obtain ⟨y, hy⟩ : ∃ y, wr.cell? ⟨g, k, none⟩ = some (.int .u64 y) := ⟨_, (AR.cells k).trans (iv_get (by rw [HX.out]; exact hlt))⟩
      have fr := AR.frozen
      go_wp2
      go_roundw
      case rel => exact ⟨k + 1, by omega, by go_num, BR.setCell_far (a := ⟨g, k, none⟩) hne _, ⟨xs.set k 77, by rw [List.length_set, HX.out], by rw [← iv_set]; exact AR.setCell k _⟩, hwr.setCell (p := ⟨g, k, none⟩) hgw _⟩
      case measure => simp [intOf]; omega
    · obtain rfl : k = L.length := by omega
      have xr := BR.cells
      go_wp2
      go_region_held3 (fun w' => w'.cell? ⟨w.heap.size, 0, none⟩ = some (.int .i64 c.ww) ∧ w'.cell? ⟨w.heap.size, 1, none⟩ = some (.int .i64 c.sl) ∧ w'.cell? ⟨w.heap.size, 2, none⟩ = some (.int .i64 c.bl) ∧ w'.cell? ⟨w.heap.size, 3, none⟩ = some (.int .i64 c.wd) ∧ w'.cell? ⟨w.heap.size, 4, none⟩ = some (.int .i64 c.en) ∧ w'.cell? ⟨w.heap.size, 5, none⟩ = some (.int .i64 c.rk) ∧ w'.cell? ⟨w.heap.size, 6, none⟩ = some (.int .i64 c.bg) ∧ w'.cell? ⟨w.heap.size, 7, none⟩ = some (.int .u64 c.la)) (first | exact box8 (w := wr.drew) BR | (exact box8 B5) | (exact box8 B6) | (exact box8 B7)) (first | (go_at_call 30; refine (planFirst c hf _).mono ?_; rintro e w5 ⟨v5, rfl, R5, hb5⟩; have B5 := Bk.keep (w := wr.drew) BR hb5; have hw5 := (Below.drew hwr).trans (hb5.mono hwr.size)) | (go_at_call 32; refine (refFirst c hf _).mono ?_; rintro e w6 ⟨v6, rfl, R6, hb6⟩; have B6 := Bk.keep B5 hb6; have R56 := R5.keep hb6; have hw6 := hw5.trans (hb6.mono hw5.size)) | (go_at_call 31; refine (same R56 R6).mono ?_; rw [dec_self]; rintro e w7 ⟨rfl, hb7⟩; have B7 := Bk.keep B6 hb7; have hw7 := hw6.trans (hb7.mono hw6.size)))
      go_wp2
      go_ret
      exact ⟨rfl, hw7⟩
set_option maxHeartbeats 2000000 in
theorem planFirstLaw_no (c : Cfg) (h : chk c ≠ 0) (hf : c.Wf) (w : World) : Calls Try.prog 4 #[cv c] w fun e w' => e = .returned (.bool true) ∧ Below w.heap.size w w' := by
  have HL : RowKit.Hid (firstL c = []) := Lib.hid (by rw [firstL, if_neg h])
  go_enter Try.func4, Try.ntmps4
  go_wp2_with fail
  refine (awake2 _).mono ?_
  rintro e w1 ⟨rfl, hb1⟩
  have B1 := (Bk.new w (cc c) 24).keep hb1
  have hw1 : Below w.heap.size w w1 := ((Below.refl _ _).alloc (Nat.le_refl _) _).trans (hb1.mono (by simp))
  have x1 := B1.cells
  go_wp2_with fail
  refine (planFirst_no c h hf _).mono ?_
  rintro e w2 ⟨rfl, hb2⟩
  have B2 := B1.keep hb2
  have hw2 := hw1.trans (hb2.mono hw1.size)
  have x2 := B2.cells
  clear x1 B1 hb1 hb2
  go_wp2_with fail
  refine (refFirst_no c h hf _).mono ?_
  rintro e w3 ⟨rfl, hb3⟩
  have B3 := B2.keep hb3
  have hw3 := hw2.trans (hb3.mono hw2.size)
  clear x2 B2 hb3
  go_wp2_with fail
  refine (same (Reads.nil _ _) (Reads.nil _ _)).mono ?_
  rw [dec_self]
  rintro e w4 ⟨rfl, hb4⟩
  have B4 := B3.keep hb4
  have hw4 := hw3.trans (hb4.mono hw3.size)
  have x4 := B4.cells
  clear B3 hb4 hw3 hw2 hw1
  go_wp2
  refine wp_loop_rounds 1 ?_
  rw [rounds_succ]
  go_wp2
  go_region_held3 (fun w' => w'.cell? ⟨w.heap.size, 0, none⟩ = some (.int .i64 c.ww) ∧ w'.cell? ⟨w.heap.size, 1, none⟩ = some (.int .i64 c.sl) ∧ w'.cell? ⟨w.heap.size, 2, none⟩ = some (.int .i64 c.bl) ∧ w'.cell? ⟨w.heap.size, 3, none⟩ = some (.int .i64 c.wd) ∧ w'.cell? ⟨w.heap.size, 4, none⟩ = some (.int .i64 c.en) ∧ w'.cell? ⟨w.heap.size, 5, none⟩ = some (.int .i64 c.rk) ∧ w'.cell? ⟨w.heap.size, 6, none⟩ = some (.int .i64 c.bg) ∧ w'.cell? ⟨w.heap.size, 7, none⟩ = some (.int .u64 c.la)) (first | exact box8 (w := w4.drew) B4 | (exact box8 B5) | (exact box8 B6) | (exact box8 B7)) (first | (go_at_call 30; refine (planFirst c hf _).mono ?_; rintro e w5 ⟨v5, rfl, R5, hb5⟩; have B5 := Bk.keep (w := w4.drew) B4 hb5; have hw5 := (Below.drew hw4).trans (hb5.mono hw4.size)) | (go_at_call 32; refine (refFirst c hf _).mono ?_; rintro e w6 ⟨v6, rfl, R6, hb6⟩; have B6 := Bk.keep B5 hb6; have R56 := R5.keep hb6; have hw6 := hw5.trans (hb6.mono hw5.size)) | (go_at_call 31; refine (same R56 R6).mono ?_; rw [dec_self]; rintro e w7 ⟨rfl, hb7⟩; have B7 := Bk.keep B6 hb7; have hw7 := hw6.trans (hb7.mono hw6.size)))
  go_wp2
  go_ret
  exact ⟨rfl, hw7⟩
theorem planFirstLaw (c : Cfg) (hf : c.Wf) (w : World) : Calls Try.prog 4 #[cv c] w fun e w' => e = .returned (.bool true) ∧ Below w.heap.size w w' := by
  by_cases hv : chk c = 0
  · exact planFirstLaw_ok c (chk_ok.1 hv) hf w
  · exact planFirstLaw_no c hv hf w
end Go.Proofs.Ytdjfkgclgikalaa.Pl
