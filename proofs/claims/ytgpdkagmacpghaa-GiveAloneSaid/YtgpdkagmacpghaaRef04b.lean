/- The reference of layer 4: Put, Take, Hold, Next (made by genref04b.py). -/
import Derived.Test.YtgpdkagmacpghaaRef04
namespace Go.Proofs.Ytgpdkagmacpghaa.Wo
open Go Go.RowKit Go.Proofs.Ytgpdkagmacpghaa.Gro Go.Proofs.Ytgpdkagmacpghaa.Own Go.Proofs.Ytgpdkagmacpghaa.Wd Go.Proofs.Ytgpdkagmacpghaa.Ap Go.Proofs.Ytgpdkagmacpghaa.Pl
set_option linter.unusedVariables false
set_option linter.unusedSimpArgs false

theorem reads_take {w : World} {k : IntKind} {b off n cap : Nat} {L : List Int} (h : Reads w k (.slice (some ⟨b, off, none⟩) (n + 1) cap) L) : Reads w k (.slice (some ⟨b, off, none⟩) n cap) (L.take n) := by
  obtain ⟨ad, cp, he, h1, h2, h3⟩ := h
  simp only [Value.slice.injEq] at he
  obtain ⟨rfl, hn, rfl⟩ := he
  rcases h3 with rfl | ⟨b', off', hb, hlt, h3⟩
  · simp at hn
  · simp only [Option.some.injEq, Addr.mk.injEq, and_true] at hb
    obtain ⟨rfl, rfl⟩ := hb
    exact ⟨_, cap, by simp; omega, by simp; omega, h2, .inr ⟨b, off, rfl, hlt, fun i hi => by rw [h3 i (by simp at hi; omega)]; simp⟩⟩
theorem reads_drop {w : World} {k : IntKind} {b off n cap : Nat} {L : List Int} (h : Reads w k (.slice (some ⟨b, off, none⟩) (n + 1) cap) L) : Reads w k (.slice (some ⟨b, off + 1, none⟩) n (cap - 1)) L.tail := by
  obtain ⟨ad, cp, he, h1, h2, h3⟩ := h
  simp only [Value.slice.injEq] at he
  obtain ⟨rfl, hn, rfl⟩ := he
  rcases h3 with rfl | ⟨b', off', hb, hlt, h3⟩
  · simp at hn
  · simp only [Option.some.injEq, Addr.mk.injEq, and_true] at hb
    obtain ⟨rfl, rfl⟩ := hb
    refine ⟨_, cap - 1, by simp; omega, by simp; omega, by omega, .inr ⟨b, off + 1, rfl, hlt, fun i hi => ?_⟩⟩
    have := h3 (i + 1) (by simp at hi; omega)
    rw [show off + 1 + i = off + (i + 1) by omega, this]; simp
theorem takeB_eq (x : St) (n : Nat) (hn : x.rk.length = n + 1) : takeB x = x.rk[n] := by
  have hb : n < x.rk.length := by omega
  unfold takeB
  rw [List.getLastD_eq_getLast?, List.getLast?_eq_getElem?]
  simp [hn, hb]
theorem nextB_eq (x : St) (hn : 0 < x.hl.length) : nextB x = x.hl[0] := by
  unfold nextB
  rw [List.headD_eq_head?_getD, List.head?_eq_getElem?]
  simp [hn]
theorem reads_one_cut {w : World} {k : IntKind} {b off : Nat} {L : List Int} (h : Reads w k (.slice (some ⟨b, off, none⟩) (0 + 1) 1) L) : Reads w k (.slice (some ⟨b, off, none⟩) 0 0) L.tail := by
  have hl := reads_len (x := ⟨some ⟨b, off, none⟩, 0 + 1, 1⟩) h
  simp only at hl
  have e : L.tail = [] := List.eq_nil_of_length_eq_zero (by simp; omega)
  rw [e]
  exact ⟨_, 0, rfl, Nat.le_refl _, Nat.zero_le _, .inl rfl⟩
theorem reads_lt {w : World} {k : IntKind} {b off n cap : Nat} {l : List Int} (h : Reads w k (.slice (some ⟨b, off, none⟩) n cap) l) (hl : 0 < l.length) : b < w.heap.size := by
  obtain ⟨ad', cap', he, _, _, h3⟩ := h
  simp only [Value.slice.injEq] at he
  rcases h3 with rfl | ⟨b', off', rfl, hb', _⟩
  · simp at hl
  · have e := he.1
    simp only [Option.some.injEq, Addr.mk.injEq] at e
    omega
theorem reads_empty {w : World} {k : IntKind} {ad : Option Addr} {cap : Nat} (h : cap ≤ maxLen) : Reads w k (.slice ad 0 cap) [] := ⟨ad, cap, rfl, Nat.zero_le _, h, .inl rfl⟩
end Go.Proofs.Ytgpdkagmacpghaa.Wo
