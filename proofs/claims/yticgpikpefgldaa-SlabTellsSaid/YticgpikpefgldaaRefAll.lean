/- The reference's list of all words, walked. -/
import Derived.Test.YticgpikpefgldaaSpots
namespace Go.Proofs.Yticgpikpefgldaa.Pl
open Go Go.RowKit Go.Proofs.Yticgpikpefgldaa.Gro Go.Proofs.Yticgpikpefgldaa.Own
set_option linter.unusedVariables false
set_option linter.unusedSimpArgs false

/-- The result: a slice of its own that holds the words of the list. -/
def AllOf (c : Cfg) (w : World) (e : Ending) (w' : World) : Prop := ∃ v, e = .returned v ∧ w'.ownsRow (w.heap.size + 1) 102 3 v (spots c).length (sc (spots c)) ∧ Below w.heap.size w w'
abbrev bxv (c : Cfg) : Obj := .cells #[.int .i64 c.ww, .int .i64 c.sl, .int .i64 c.bl, .int .i64 c.wd, .int .i64 c.en, .int .i64 c.rk, .int .i64 c.bg, .int .u64 c.la] 24
def AtL (w : World) (c : Cfg) (L : List Spot) (v : Value) (wr : World) : Prop := wr.ownsRow (w.heap.size + 1) 102 3 v L.length (sc L) ∧ Below (w.alloc (bxv c)).heap.size (w.alloc (bxv c)) wr
theorem AtL.next {w : World} {c : Cfg} {L : List Spot} {v v' : Value} {wr w' : World} {o : Obj} {news : List Spot} {m : Nat} {xs : List Value} (h : AtL w c L v wr) (h1 : w'.ownsRow (w.heap.size + 1) 102 3 v' (L.length + m) (sc L ++ xs)) (hb : Below (w.heap.size + 1) (wr.alloc o) w') (hm : m = news.length) (hx : xs = sc news) : AtL w c (L ++ news) v' w' :=
  ⟨owns_len h1 (by rw [List.length_append, hm]) (by rw [sc_append, hx]), (h.2.alloc h.2.size o).trans (hb.mono (by simp))⟩
theorem AtL.eq {w : World} {c : Cfg} {L M : List Spot} {v : Value} {wr : World} (h : AtL w c L v wr) (e : L = M) : AtL w c M v wr := e ▸ h

theorem mulN {a b A B : Nat} (ha : a ≤ A) (hb : b ≤ B) : 0 ≤ a * b ∧ a * b ≤ A * B := ⟨Nat.zero_le _, Nat.mul_le_mul ha hb⟩
theorem start0 (w : World) (c : Cfg) (v : Value) (hv : v = .slice (some ⟨w.heap.size + 1, 0, none⟩) 3 3) : AtL w c (S1 0) v ((w.alloc (bxv c)).alloc (.cells #[.int .i64 0, .int .i64 0, .int .i64 0, .int .i64 0, .int .i64 1, .int .i64 0, .int .i64 0, .int .i64 2, .int .i64 0] 102)) := by
  refine ⟨⟨by rw [sc_length], .inr ⟨w.heap.size + 1, 3, _, hv, Nat.le_refl _, heap_alloc2_new _ _ _, by decide, by decide, rfl, rfl⟩⟩, (Below.refl _ _).alloc (Nat.le_refl _) _⟩
set_option maxHeartbeats 4000000 in
theorem refAllN (W S B D N : Nat) (rk bg la : Int) (hw1 : W ≤ 8) (hs1 : S ≤ 8) (hl1 : B ≤ 16) (hd1 : D ≤ 4) (he1 : N ≤ 32) (w : World) : Calls Try.prog 53 #[cv ⟨W, S, B, D, N, rk, bg, la⟩] w (AllOf ⟨W, S, B, D, N, rk, bg, la⟩ w) := by
  have hSB : (0 : Int) ≤ (S : Int) * (B : Int) ∧ (S : Int) * (B : Int) ≤ 128 := by
    have := mul_range (a := (S : Int)) (b := (B : Int)) (A := 8) (B := 16) (by omega) (by omega) (by omega) (by omega)
    omega
  obtain ⟨hm0, hm1⟩ := hSB
  have HM : RowKit.Hid (((S * B : Nat) : Int) = (S : Int) * (B : Int)) := Lib.hid (by simp)
  go_enter Try.func53, Try.ntmps53
  go_wp2
  go_loopw [3, 4] (fun v i wr => ∃ k : Nat, (k : Int) ≤ (W : Int) ∧ i = .int .i64 k ∧ AtL w ⟨W, S, B, D, N, rk, bg, la⟩ (S1 k) v wr) (fun _ i _ => W - (intOf i).toNat)
  case atStart => exact ⟨0, by first | omega | (simp; done) | (simp; omega), rfl, start0 w _ _ rfl⟩
  case round =>
    obtain ⟨k, hk, rfl, hown⟩ := hrel
    obtain ⟨hc1, hf1⟩ := bcell hown.2
    have hln : (S1 k).length ≤ 900 := by rw [S1_len]; omega
    by_cases hlt : (k : Int) < (W : Int)
    · go_wp2_with (at_builtin; refine append_row elem33 rfl _ _ rfl (w.heap.size + 1) _ _ _ rfl (World.ownsRow.alloc hown.1 _) wr.heap.size 1 1 [.int .i64 1, .int .i64 (k : Int), .int .i64 0] rfl rfl (new_cells _ _ _) one3 (by decide) (by omega) (by have := hown.2.size; simp at this ⊢; omega) ?_; intro v' w' hown2 hb2)
      go_roundw
      case rel => exact ⟨k + 1, by omega, by go_num, (AtL.next (news := [(1, (k : Int), 0)]) hown hown2 hb2 rfl rfl).eq (S1_succ k).symm⟩
      case measure => simp [intOf]; omega
    · obtain rfl : W = k := by omega
      clear hlt hk hln
      go_wp2
      go_loopw [3, 5] (fun v i wr => ∃ k : Nat, (k : Int) ≤ (S : Int) ∧ i = .int .i64 k ∧ AtL w ⟨W, S, B, D, N, rk, bg, la⟩ (S2 W k) v wr) (fun _ i _ => S - (intOf i).toNat)
      case atStart => exact ⟨0, by first | omega | (simp; done) | (simp; omega), rfl, hown.eq (by simp [S2])⟩
      case round =>
        clear hc1 hf1
        obtain ⟨k, hk, rfl, hown⟩ := hrel
        obtain ⟨hc1, hf1⟩ := bcell hown.2
        have hln : (S2 W k).length ≤ 900 := by rw [S2_len]; omega
        by_cases hlt : (k : Int) < (S : Int)
        · go_wp2_with (at_builtin; refine append_row elem33 rfl _ _ rfl (w.heap.size + 1) _ _ _ rfl (World.ownsRow.alloc hown.1 _) wr.heap.size 1 1 [.int .i64 2, .int .i64 (k : Int), .int .i64 0] rfl rfl (new_cells _ _ _) one3 (by decide) (by omega) (by have := hown.2.size; simp at this ⊢; omega) ?_; intro v' w' hown2 hb2)
          go_roundw
          case rel => exact ⟨k + 1, by omega, by go_num, (AtL.next (news := [(2, (k : Int), 0)]) hown hown2 hb2 rfl rfl).eq (S2_succ ..).symm⟩
          case measure => simp [intOf]; omega
        · obtain rfl : S = k := by omega
          clear hlt hk hln
          go_wp2
          go_loopw [3, 6] (fun v i wr => ∃ k : Nat, (k : Int) ≤ (N : Int) ∧ i = .int .i64 k ∧ AtL w ⟨W, S, B, D, N, rk, bg, la⟩ (S3 W S k) v wr) (fun _ i _ => N - (intOf i).toNat)
          case atStart => exact ⟨0, by first | omega | (simp; done) | (simp; omega), rfl, hown.eq (by simp [S3])⟩
          case round =>
            clear hc1 hf1
            obtain ⟨k, hk, rfl, hown⟩ := hrel
            obtain ⟨hc1, hf1⟩ := bcell hown.2
            have hln : (S3 W S k).length ≤ 900 := by rw [S3_len]; omega
            by_cases hlt : (k : Int) < (N : Int)
            · go_wp2_with (at_builtin; refine append_row elem33 rfl _ _ rfl (w.heap.size + 1) _ _ _ rfl (World.ownsRow.alloc hown.1 _) wr.heap.size 2 2 [.int .i64 3, .int .i64 (k : Int), .int .i64 0, .int .i64 4, .int .i64 (k : Int), .int .i64 0] rfl rfl (new_cells _ _ _) one6 (by decide) (by omega) (by have := hown.2.size; simp at this ⊢; omega) ?_; intro v' w' hown2 hb2)
              go_roundw
              case rel => exact ⟨k + 1, by omega, by go_num, (AtL.next (news := [(3, (k : Int), 0), (4, (k : Int), 0)]) hown hown2 hb2 rfl rfl).eq (S3_succ ..).symm⟩
              case measure => simp [intOf]; omega
            · obtain rfl : N = k := by omega
              clear hlt hk hln
              go_wp2
              go_loopw [3, 7] (fun v i wr => ∃ k : Nat, (k : Int) ≤ (S : Int) * (B : Int) ∧ i = .int .i64 k ∧ AtL w ⟨W, S, B, D, N, rk, bg, la⟩ (S4 W S N D k) v wr) (fun _ i _ => S * B - (intOf i).toNat)
              case atStart => exact ⟨0, by first | omega | (simp; done) | (simp; omega), rfl, hown.eq (by simp [S4])⟩
              case round =>
                clear hc1 hf1
                obtain ⟨q, hk, rfl, hown⟩ := hrel
                obtain ⟨hc1, hf1⟩ := bcell hown.2
                obtain ⟨hq0, hq1⟩ := mulN (a := D + 1) (b := q) (A := 5) (B := 128) (by omega) (by omega)
                have hln : (S4 W S N D q).length ≤ 800 := by rw [S4_len]; omega
                by_cases hlt : (q : Int) < (S : Int) * (B : Int)
                · go_wp2_with (at_builtin; refine append_row elem33 rfl _ _ rfl (w.heap.size + 1) _ _ _ rfl (World.ownsRow.alloc hown.1 _) wr.heap.size 1 1 [.int .i64 5, .int .i64 (q : Int), .int .i64 0] rfl rfl (new_cells _ _ _) one3 (by decide) (by omega) (by have := hown.2.size; simp at this ⊢; omega) ?_; intro v' w' hown2 hb2)
                  have hA := (AtL.next (news := [(5, (q : Int), 0)]) hown hown2 hb2 rfl rfl).eq (S5_zero W S N D q).symm
                  clear hown hown2 hb2 hc1 hf1
                  obtain ⟨hc1, hf1⟩ := bcell hA.2
                  go_wp2
                  go_loopw [3, 8] (fun v i wr => ∃ k : Nat, (k : Int) ≤ (D : Int) ∧ i = .int .i64 k ∧ AtL w ⟨W, S, B, D, N, rk, bg, la⟩ (S5 W S N D q k) v wr) (fun _ i _ => D - (intOf i).toNat)
                  case atStart => exact ⟨0, by first | omega | (simp; done) | (simp; omega), rfl, hA⟩
                  case round =>
                    clear hc1 hf1
                    obtain ⟨k, hk, rfl, hown⟩ := hrel
                    obtain ⟨hc1, hf1⟩ := bcell hown.2
                    have hln : (S5 W S N D q k).length ≤ 900 := by rw [S5_len]; omega
                    by_cases hlt2 : (k : Int) < (D : Int)
                    · go_wp2_with (at_builtin; refine append_row elem33 rfl _ _ rfl (w.heap.size + 1) _ _ _ rfl (World.ownsRow.alloc hown.1 _) wr.heap.size 1 1 [.int .i64 6, .int .i64 (q : Int), .int .i64 (k : Int)] rfl rfl (new_cells _ _ _) one3 (by decide) (by omega) (by have := hown.2.size; simp at this ⊢; omega) ?_; intro v' w' hown2 hb2)
                      go_roundw
                      case rel => exact ⟨k + 1, by omega, by go_num, (AtL.next (news := [(6, (q : Int), (k : Int))]) hown hown2 hb2 rfl rfl).eq (S5_succ ..).symm⟩
                      case measure => simp [intOf]; omega
                    · obtain rfl : D = k := by omega
                      clear hlt2 hk hln
                      go_wp2
                      go_roundw
                      case rel => exact ⟨q + 1, by omega, by go_num, hown.eq (S4_succ ..).symm⟩
                      case measure => have := HM.out; simp [intOf]; omega

                · obtain rfl : q = S * B := by have := HM.out; omega
                  go_wp2
                  go_ret
                  exact ⟨_, rfl, hown.1, ((Below.refl _ _).alloc (Nat.le_refl _) _).trans (hown.2.mono (by simp))⟩

theorem refAll (c : Cfg) (h : Ok c) (w : World) : Calls Try.prog 53 #[cv c] w (AllOf c w) := by
  obtain ⟨hw, hs, hl, hd, he, _, _, _⟩ := h
  obtain ⟨ww, sl, bl, wd, en, rk, bg, la⟩ := c
  simp only at hw hs hl hd he
  obtain ⟨W, rfl⟩ := Int.eq_ofNat_of_zero_le (a := ww) (by omega)
  obtain ⟨S, rfl⟩ := Int.eq_ofNat_of_zero_le (a := sl) (by omega)
  obtain ⟨B, rfl⟩ := Int.eq_ofNat_of_zero_le (a := bl) (by omega)
  obtain ⟨D, rfl⟩ := Int.eq_ofNat_of_zero_le (a := wd) (by omega)
  obtain ⟨N, rfl⟩ := Int.eq_ofNat_of_zero_le (a := en) (by omega)
  exact refAllN W S B D N rk bg la (by omega) (by omega) (by omega) (by omega) (by omega) w
end Go.Proofs.Yticgpikpefgldaa.Pl
