/- The reference's Inside; both put together (made by geninside.py). -/
import Derived.Test.YtgpdkagmacpghaaGreatInside
namespace Go.Proofs.YtgpdkagmacpghaaGreat.Me
open Go Go.RowKit Go.Proofs.YtgpdkagmacpghaaGreat.Gro Go.Proofs.YtgpdkagmacpghaaGreat.Own Go.Proofs.YtgpdkagmacpghaaGreat.Wd Go.Proofs.YtgpdkagmacpghaaGreat.Ap Go.Proofs.YtgpdkagmacpghaaGreat.Pl Go.Proofs.YtgpdkagmacpghaaGreat.Wo
set_option linter.unusedVariables false
set_option linter.unusedSimpArgs false
theorem owns_slI {w : World} {base n size : Nat} {e : TypeId} {v : Value} {xs : List Value} (h : w.ownsRow base e size v n xs) : ∃ y : Sl, v = y.v ∧ y.len = n := by
  rcases h.2 with ⟨rfl, h0⟩ | ⟨g, cap, cur, rfl, _⟩
  · exact ⟨nilS, rfl, h0.symm⟩
  · exact ⟨⟨some ⟨g, 0, none⟩, n, cap⟩, rfl, rfl⟩
/-- The ways of both, at one input. -/
theorem inside_ways {c : Cfg} {L : List Int} {v : Sl} {w : World} (hr : Reads w .u64 v.v L) (hL : ∀ x ∈ L, 0 ≤ x ∧ x < 18446744073709551616) (k : Int) :
    (chk c ≠ 0) ∨ (chk c = 0 ∧ (v.len : Int) ≠ siz c) ∨ (chk c = 0 ∧ (v.len : Int) = siz c ∧ ¬ (0 ≤ k ∧ k < c.ww)) ∨ (chk c = 0 ∧ (v.len : Int) = siz c ∧ 0 ≤ k ∧ k < c.ww ∧ ∃ x j b0 off, 0 ≤ x ∧ x < 18446744073709551616 ∧ L.getD (3 + k.toNat) 0 = x ∧ ((j : Nat) : Int) = 3 + k ∧ j < v.len ∧ v.ad = some ⟨b0, off, none⟩ ∧ b0 < w.heap.size ∧ w.cell? ⟨b0, off + j, none⟩ = some (.int .u64 x)) := by
  by_cases h : chk c = 0
  · by_cases hs : (v.len : Int) = siz c
    · by_cases hk : 0 ≤ k ∧ k < c.ww
      · refine .inr (.inr (.inr ⟨h, hs, hk.1, hk.2, ?_⟩))
        have hln := reads_len hr
        have hok := chk_ok.1 h
        have hz : 3 + k < siz c := by
          have h1 := hok.sl
          have h2 := hok.en
          have h3 := hok.bl
          have h4 := hok.wd
          have := mul_range (a := c.sl) (b := c.bl) (A := 8) (B := 16) (by omega) (by omega) (by omega) (by omega)
          have := mul_range (a := c.sl * c.bl) (b := 1 + c.wd) (A := 128) (B := 5) (by omega) (by omega) (by omega) (by omega)
          rw [siz, if_pos (okB_of_ok hok)]
          omega
        have hj : 3 + k.toNat < L.length := by omega
        obtain ⟨ad, cap, e, _, _, h3⟩ := hr
        rcases h3 with rfl | ⟨b0, off, rfl, hb0, hc⟩
        · simp at hj
        · have e2 : v.ad = some ⟨b0, off, none⟩ := by
            obtain ⟨va, vl, vc⟩ := v
            simp only [Sl.v, Value.slice.injEq] at e
            exact e.1
          have hx := hL _ (List.getElem_mem hj)
          refine ⟨L[3 + k.toNat], 3 + k.toNat, b0, off, hx.1, hx.2, ?_, by omega, by omega, e2, hb0, hc _ hj⟩
          rw [List.getD_eq_getElem?_getD, List.getElem?_eq_getElem hj]
          rfl
      · exact .inr (.inr (.inl ⟨h, hs, hk⟩))
    · exact .inr (.inl ⟨h, hs⟩)
  · exact .inl h
end Go.Proofs.YtgpdkagmacpghaaGreat.Me
