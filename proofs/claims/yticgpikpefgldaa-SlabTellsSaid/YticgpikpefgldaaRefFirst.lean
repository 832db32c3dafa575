/- The reference's First, walked. -/
import Derived.Test.YticgpikpefgldaaPlanFirstWalks
namespace Go.Proofs.Yticgpikpefgldaa.Pl
open Go Go.RowKit Go.Proofs.Yticgpikpefgldaa.Gro Go.Proofs.Yticgpikpefgldaa.Own Go.Proofs.Yticgpikpefgldaa.Wd
set_option linter.unusedVariables false
set_option linter.unusedSimpArgs false

theorem elem44 : Elem Try.prog 25 22 1 8 := ⟨Try.underlying25, by
  obtain ⟨i, h1, h2, h3, h4⟩ := info22
  exact ⟨i, _, h1, h2, h3, h4, rfl⟩, by decide, by decide⟩
theorem spot_range {c : Cfg} (h : Ok c) {s : Spot} (hs : s ∈ spots c) : 0 ≤ s.2.1 ∧ (s.1 = 4 → s.2.1 < 32) := by
  have he := h.en
  rw [spots_eq] at hs
  rcases List.mem_append.1 hs with hs | hs
  · rcases List.mem_append.1 hs with hs | hs
    · rcases List.mem_append.1 hs with hs | hs
      · rcases List.mem_append.1 hs with hs | hs
        · simp [S0] at hs; rcases hs with rfl | rfl | rfl <;> simp
        · have := mem_M1 hs; omega
      · have := mem_M2 hs; omega
    · have h3 := mem_M3 hs
      obtain ⟨a, ha, hs⟩ := List.mem_flatMap.1 hs
      have := List.mem_range.1 ha
      refine ⟨h3.2.2, fun _ => ?_⟩
      simp at hs; rcases hs with rfl | rfl <;> (simp only; omega)
  · have := mem_M4 hs; omega
theorem fv_ways (N : Int) (s : Spot) :
    (fv N s = 2 ∧ (s.1 == 0) = true ∧ (s.2.1 == 0) = true ∧ (s.2.1 == 2) = false ∧ (s.1 == 3) = false ∧ (s.1 == 4) = false ∧ True) ∨
    (fv N s = 1 ∧ (s.1 == 0) = true ∧ (s.2.1 == 0) = false ∧ (s.2.1 == 2) = true ∧ (s.1 == 3) = false ∧ (s.1 == 4) = false ∧ True) ∨
    (fv N s = 0 ∧ (s.1 == 0) = true ∧ (s.2.1 == 0) = false ∧ (s.2.1 == 2) = false ∧ (s.1 == 3) = false ∧ (s.1 == 4) = false ∧ True) ∨
    (fv N s = 1048576 ∧ (s.1 == 0) = false ∧ True ∧ True ∧ (s.1 == 3) = true ∧ (s.1 == 4) = false ∧ True) ∨
    (fv N s = s.2.1 + 2 ∧ (s.1 == 0) = false ∧ True ∧ True ∧ (s.1 == 3) = false ∧ (s.1 == 4) = true ∧ s.2.1 < N - 1) ∨
    (fv N s = 0 ∧ (s.1 == 0) = false ∧ True ∧ True ∧ (s.1 == 3) = false ∧ (s.1 == 4) = true ∧ decide (s.2.1 < N - 1) = false) ∨
    (fv N s = 0 ∧ (s.1 == 0) = false ∧ True ∧ True ∧ (s.1 == 3) = false ∧ (s.1 == 4) = false ∧ True) := by
  unfold fv
  by_cases h0 : s.1 = 0
  · by_cases ha : s.2.1 = 0
    · left; simp [h0, ha]
    · by_cases hb : s.2.1 = 2
      · right; left; simp [h0, hb]
      · right; right; left; simp [h0, ha, hb]
  · by_cases h3 : s.1 = 3
    · right; right; right; left; simp [h3]
    · by_cases h4 : s.1 = 4
      · by_cases h5 : s.2.1 < N - 1
        · right; right; right; right; left; simp [h4, h5]
        · right; right; right; right; right; left; simp [h4, h5]
      · right; right; right; right; right; right; simp [h0, h3, h4]
theorem one1 {a : Int} : ∀ u ∈ [Value.int .u64 a], u.oneCell' = true := by simp [Value.oneCell']
theorem owns_base {w : World} {base B : Nat} {e : TypeId} {size : Nat} {v : Value} {n : Nat} {xs : List Value} (h : w.ownsRow base e size v n xs) (hb : B ≤ base) : w.ownsRow B e size v n xs := by
  refine ⟨h.1, ?_⟩
  rcases h.2 with h0 | ⟨g, cap, cur, rfl, hge, rest⟩
  · exact .inl h0
  · exact .inr ⟨g, cap, cur, rfl, Nat.le_trans hb hge, rest⟩
theorem fin_own (L : List Spot) (N : Int) (k : Nat) (hk : k < L.length) {w : World} {B : Nat} {e : TypeId} {v : Value} {y : Int} (h : w.ownsRow B e 1 v (k + 1) ((((L.take k).map (fv N)).map (Value.int .u64)) ++ [.int .u64 y])) (hy : fv N L[k] = y) :
    w.ownsRow B e 1 v (k + 1) (((L.take (k + 1)).map (fv N)).map (Value.int .u64)) := by
  refine owns_len h rfl ?_
  rw [List.take_succ_eq_append_getElem hk, List.map_append, List.map_append, ← hy]
  rfl
theorem drewN_alloc {a w : World} (h : Below a.heap.size a w) (n : Nat) (o : Obj) : Below a.heap.size a ((w.drewN n).alloc o) := (gro_drewN h).alloc h.size o
theorem planFirst (c : Cfg) (hf : c.Wf) (w : World) : Calls Try.prog 98 #[cv c] w fun e w' => ∃ v, e = .returned v ∧ Reads w' .u64 v (firstL c) ∧ Below w.heap.size w w' := by
  by_cases hv : chk c = 0
  · rw [firstL, if_pos hv]
    have hmax : (first c).length ≤ maxLen := by
      have h := chk_ok.1 hv
      have h1 := spots_len h
      have h2 := tot_ok (okB_of_ok h)
      have h3 := h.ww
      have h4 := h.sl
      have h5 := h.wd
      have h6 := h.en
      rw [siz, if_pos (okB_of_ok h)] at h1
      have := mul_range (a := c.sl * c.bl) (b := 1 + c.wd) (A := 128) (B := 5) h2.2.1 h2.2.2 (by omega) (by omega)
      rw [first_len]; unfold maxLen; omega
    exact (planFirst_ok c (chk_ok.1 hv) hf w).mono fun e w' ⟨g, h1, h2, h3, h4⟩ => ⟨_, h1, Reads.of_bk h3 hmax, h4⟩
  · rw [firstL, if_neg hv]
    exact (planFirst_no c hv hf w).mono fun e w' ⟨h1, h3⟩ => ⟨_, h1, Reads.nil _ _, h3⟩
end Go.Proofs.Yticgpikpefgldaa.Pl
