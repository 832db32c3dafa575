/- The reference's address of a word: its place in the list. -/
import Derived.Test.YticgpikpefgldaaRefAll
import Derived.Laws.StructEq
namespace Go.Proofs.Yticgpikpefgldaa.Pl
open Go Go.RowKit Go.Proofs.Yticgpikpefgldaa.Gro Go.Proofs.Yticgpikpefgldaa.Own
set_option linter.unusedVariables false
set_option linter.unusedSimpArgs false

def idx (s : Spot) : List Spot → Nat → Int
  | [], _ => -1
  | x :: r, k => if x = s then (k : Int) else idx s r (k + 1)
def refAt (c : Cfg) (s : Spot) : Int := if chk c = 0 then idx s (spots c) 0 else -1
theorem sc_get (L : List Spot) (k : Nat) (h : k < L.length) : (sc L)[k * 3]? = some (.int .i64 L[k].1) ∧ (sc L)[k * 3 + 1]? = some (.int .i64 L[k].2.1) ∧ (sc L)[k * 3 + 2]? = some (.int .i64 L[k].2.2) := by
  induction L generalizing k with
  | nil => simp at h
  | cons s r ih =>
    cases k with
    | zero => simp [sc]
    | succ n =>
      have := ih n (by simpa using h)
      have e : sc (s :: r) = [.int .i64 s.1, .int .i64 s.2.1, .int .i64 s.2.2] ++ sc r := by simp [sc]
      rw [e]
      have e1 : (n + 1) * 3 = n * 3 + 3 := by omega
      rw [e1]
      simpa [List.getElem?_append] using this
theorem idx_drop (s : Spot) (L : List Spot) (k : Nat) (h : k < L.length) : idx s (L.drop k) k = if L[k] = s then (k : Int) else idx s (L.drop (k + 1)) (k + 1) := by
  rw [List.drop_eq_getElem_cons h, idx]
theorem stood41 : Try.prog.stoodInHeld 102 = false := by kernel_rfl
theorem guard41 : Try.prog.eqGuardType Try.prog.depth 102 = false := by kernel_rfl
theorem eql3 (a b d a' b' d' : Int) (w : World) : (binOp .eql 102 (.agg #[.int .i64 a, .int .i64 b, .int .i64 d]) (.agg #[.int .i64 a', .int .i64 b', .int .i64 d'])).run Try.prog w = .ok (.bool (decide ((a, b, d) = (a', b', d')))) w := by
  have hs := stood41
  have hu := Try.underlying102
  have h3 := Try.underlying3
  simp [go_sem, hs, hu, h3]
  by_cases h1 : a = a' <;> by_cases h2 : b = b' <;> simp [h1, h2, go_sem]
  by_cases h4 : d = d' <;> simp [h4]
set_option maxHeartbeats 1000000 in
theorem refAt_walk (c : Cfg) (h : c.Wf) (s : Spot) (w : World) : Calls Try.prog 70 #[cv c, .agg #[.int .i64 s.1, .int .i64 s.2.1, .int .i64 s.2.2]] w fun e w' => e = .returned (.int .i64 (refAt c s)) ∧ Below w.heap.size w w' := by
  by_cases hv : chk c = 0
  · have hB' : (chk c != 0) = false := by simp [hv]
    have ho := chk_ok.1 hv
    have HK : RowKit.Hid (refAt c s = idx s (spots c) 0) := Lib.hid (by rw [refAt, if_pos hv])
    clear hv
    go_enter Try.func70, Try.ntmps70
    go_wp2_with (first | (go_at_call 63; refine (refCheck c h _).mono ?_; rintro e w1 ⟨rfl, hb1⟩; obtain ⟨hc1, hf1⟩ := bcell hb1) | (go_at_call 53; refine (refAll c ho _).mono ?_; rintro e w2 ⟨v, rfl, hown, hb2⟩))
    have hpos : 0 < (spots c).length := by unfold spots; rw [S4_len]; omega
    obtain ⟨g, cap, rfl, hg0, hg1, hcap, hmx, hcells⟩ := owns_cells hown hpos
    have hbw : Below (w.heap.size + 2) ((w.alloc (bxv c)).alloc (.cells #[.int .i64 s.1, .int .i64 s.2.1, .int .i64 s.2.2] 102)) w2 := (hb1.mono (by simp)).trans (hb2.mono (by have := hb1.size; simp at this; omega))
    have hs0 : w2.cell? ⟨w.heap.size + 1, 0, none⟩ = some (.int .i64 s.1) := (hbw.cell (p := ⟨w.heap.size + 1, 0, none⟩) (by simp)).trans (cell_of_row _ _ _ _ _ _ (heap_alloc2_new _ _ _))
    have hs1 : w2.cell? ⟨w.heap.size + 1, 1, none⟩ = some (.int .i64 s.2.1) := (hbw.cell (p := ⟨w.heap.size + 1, 1, none⟩) (by simp)).trans (cell_of_row _ _ _ _ _ _ (heap_alloc2_new _ _ _))
    have hs2 : w2.cell? ⟨w.heap.size + 1, 2, none⟩ = some (.int .i64 s.2.2) := (hbw.cell (p := ⟨w.heap.size + 1, 2, none⟩) (by simp)).trans (cell_of_row _ _ _ _ _ _ (heap_alloc2_new _ _ _))
    have HB := Lib.hid hbw
    have HC := Lib.hid hcells
    unfold maxLen at hmx
    clear hcells hbw hown hc1 hf1
    generalize spots c = L at *
    go_loopw [6] (fun i wr => ∃ k : Nat, k ≤ L.length ∧ i = .int .i64 k ∧ idx s (L.drop k) k = idx s L 0 ∧ ∃ n, wr = w2.drewN n) (fun i _ => L.length - (intOf i).toNat)
    case atStart => exact ⟨0, Nat.zero_le _, rfl, rfl, 0, rfl⟩
    case round =>
      obtain ⟨k, hk, rfl, hi, n, rfl⟩ := hrel
      have HI := Lib.hid hi
      clear hi
      by_cases hlt : k < L.length
      · obtain ⟨q0, q1, q2⟩ := sc_get L k hlt
        have hl3 := sc_length L
        have c0 : w2.cell? ⟨g, k * 3, none⟩ = some (.int .i64 L[k].1) := (HC.out _ (by omega)).trans q0
        have c1 : w2.cell? ⟨g, k * 3 + 1, none⟩ = some (.int .i64 L[k].2.1) := (HC.out _ (by omega)).trans q1
        have c2 : w2.cell? ⟨g, k * 3 + 2, none⟩ = some (.int .i64 L[k].2.2) := (HC.out _ (by omega)).trans q2
        have HX := Lib.hid (idx_drop s L k hlt)
        have hgd := guard41
        clear q0 q1 q2 hl3
        by_cases heq : L[k] = s
        · have he : ∀ w, (binOp .eql 102 (.agg #[.int .i64 L[k].1, .int .i64 L[k].2.1, .int .i64 L[k].2.2]) (.agg #[.int .i64 s.1, .int .i64 s.2.1, .int .i64 s.2.2])).run Try.prog w = .ok (.bool true) w := fun w => by rw [eql3, heq]; simp
          have HE := Lib.hid heq
          clear heq
          go_wp2
          go_quiet (fail)
          go_wp2
          go_ret
          exact ⟨ret_int (by rw [HK.out, ← HI.out, HX.out, if_pos HE.out]), gro_drewN (gro_drewN ((((Below.refl _ _).alloc (Nat.le_refl _) _).alloc (by simp) _).trans (HB.out.mono (by omega))))⟩
        · have he : ∀ w, (binOp .eql 102 (.agg #[.int .i64 L[k].1, .int .i64 L[k].2.1, .int .i64 L[k].2.2]) (.agg #[.int .i64 s.1, .int .i64 s.2.1, .int .i64 s.2.2])).run Try.prog w = .ok (.bool false) w := fun w => by rw [eql3]; exact congrArg (fun b => Result.ok (Value.bool b) w) (decide_eq_false heq)
          have HE := Lib.hid heq
          clear heq
          go_wp2
          go_quiet (fail)
          go_wp2
          go_roundw
          case rel => exact ⟨k + 1, by omega, by go_num, by rw [← HI.out, HX.out, if_neg HE.out], _, rfl⟩
          case measure => simp [intOf]; omega
      · obtain rfl : k = L.length := by omega
        go_wp2
        go_ret
        exact ⟨ret_int (by rw [HK.out, ← HI.out, List.drop_length]; rfl), gro_drewN ((((Below.refl _ _).alloc (Nat.le_refl _) _).alloc (by simp) _).trans (HB.out.mono (by omega)))⟩
  · have hB' : (chk c != 0) = true := by simp [hv]
    have HK : RowKit.Hid (refAt c s = -1) := Lib.hid (by rw [refAt, if_neg hv])
    clear hv
    go_enter Try.func70, Try.ntmps70
    go_wp2_with (go_at_call 63; refine (refCheck c h _).mono ?_; rintro e w1 ⟨rfl, hb1⟩; obtain ⟨hc1, hf1⟩ := bcell hb1)
    go_ret
    exact ⟨ret_int HK.out.symm, (((Below.refl _ _).alloc (Nat.le_refl _) _).alloc (by simp) _).trans (hb1.mono (by simp; omega))⟩
end Go.Proofs.Yticgpikpefgldaa.Pl
