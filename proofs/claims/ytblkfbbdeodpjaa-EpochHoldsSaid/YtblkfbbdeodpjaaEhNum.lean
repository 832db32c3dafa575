/- EpochHolds: what a pick does to the words, the workers' states and to who is inside. -/
import Derived.Test.YtblkfbbdeodpjaaEpochFn
import Derived.Test.YtblkfbbdeodpjaaStackStep
import Derived.Test.YtblkfbbdeodpjaaWorks
import Derived.Test.YtblkfbbdeodpjaaWorkRows
namespace Go.Proofs.Ytblkfbbdeodpjaa.Me
open Go Go.RowKit Go.Proofs.Ytblkfbbdeodpjaa.Gro Go.Proofs.Ytblkfbbdeodpjaa.Own Go.Proofs.Ytblkfbbdeodpjaa.Wd Go.Proofs.Ytblkfbbdeodpjaa.Ap Go.Proofs.Ytblkfbbdeodpjaa.Pl Go.Proofs.Ytblkfbbdeodpjaa.Wo
set_option linter.unusedVariables false
set_option linter.unusedSimpArgs false
theorem gset {α : Type} (l : List α) (w k : Nat) (x d : α) : (l.set w x).getD k d = if k = w ∧ w < l.length then x else l.getD k d := by
  rw [List.getD_eq_getElem?_getD, List.getElem?_set, List.getD_eq_getElem?_getD]
  by_cases h : w = k
  · subst h
    by_cases h2 : w < l.length
    · simp [h2]
    · rw [if_pos rfl, if_neg h2, if_neg (by omega), List.getElem?_eq_none (by omega)]
  · rw [if_neg h, if_neg (by omega)]
abbrev cEh (N : Nat) : Cfg := ⟨N, 1, 1, 1, 1, 0, 1, 1⟩
theorem cEh_chk {N : Nat} (h : 1 ≤ N ∧ N ≤ 8) : chk (cEh N) = 0 := chk_ok.2 ⟨by simp only; omega, by simp only; omega, by simp only; omega, by simp only; omega, by simp only; omega, by simp only; omega, by simp only; omega, by simp only; omega⟩
theorem cEh_ann {N : Nat} (h : 1 ≤ N ∧ N ≤ 8) {k : Nat} (hk : k < N) : aAnn (cEh N) (k : Int) = ((3 + k : Nat) : Int) := by
  have hb := okB_of_ok (chk_ok.1 (cEh_chk h))
  have : hasB (cEh N) (k : Int) (cEh N).ww = true := by
    unfold hasB
    rw [hb]
    simp
    omega
  rw [aAnn, if_pos this]
  omega
def gL (L : List Int) : Int := L.getD 0 0
def aL (L : List Int) (k : Nat) : Int := L.getD (3 + k) 0
def pL (P : List Pl) (k : Nat) : Pl := P.getD k pz
def iL (I : List Bool) (k : Nat) : Bool := I.getD k false
structure EI (N i : Nat) (L : List Int) (P : List Pl) (I : List Bool) : Prop where
  len : 3 + N < L.length
  m : L.length ≤ 1000
  wr : WR L
  nP : P.length = N
  nI : I.length = N
  g : 2 ≤ gL L ∧ gL L ≤ 2 + i
  pr : ∀ k, k < N → PR (pL P k) ∧ (pL P k).ep ≤ gL L
  ln : ∀ k, k < N → (pL P k).ln = 0 ∨ (pL P k).ln = 2 ∨ (pL P k).ln = 3 ∨ (pL P k).ln = 71 ∨ (pL P k).ln = 72
  ins : ∀ k, k < N → iL I k = true → gL L ≤ (pL P k).ep + 1 ∧ aL L k = 2 * (pL P k).ep + 1 ∧ ((pL P k).ln = 0 ∨ (pL P k).ln = 71 ∨ (pL P k).ln = 72)
  l3 : ∀ k, k < N → (pL P k).ln = 3 → aL L k = 2 * (pL P k).ep + 1
  l71 : ∀ k, k < N → (pL P k).ln = 71 → 0 ≤ (pL P k).j ∧ (pL P k).j < N ∧ (pL P k).v ≤ gL L ∧ ∀ m : Nat, m < N → (m : Int) < (pL P k).j → iL I m = true → (pL P k).v ≤ (pL P m).ep
  l72 : ∀ k, k < N → (pL P k).ln = 72 → (pL P k).v ≤ gL L ∧ ∀ m : Nat, m < N → iL I m = true → (pL P k).v ≤ (pL P m).ep
theorem EI.upd {N i w : Nat} {L L' : List Int} {P : List Pl} {I : List Bool} (h : EI N i L P I) (hw : w < N) (p' : Pl) (b' : Bool)
    (e1 : L'.length = L.length) (e2 : WR L') (e3 : gL L ≤ gL L' ∧ gL L' ≤ 3 + i) (e4 : ∀ k, k < N → k ≠ w → aL L' k = aL L k)
    (e5 : ∀ k, k < N → k ≠ w → iL I k = true → gL L' ≤ (pL P k).ep + 1)
    (f1 : PR p') (f2 : p'.ep ≤ gL L') (f3 : p'.ln = 0 ∨ p'.ln = 2 ∨ p'.ln = 3 ∨ p'.ln = 71 ∨ p'.ln = 72)
    (f4 : b' = true → gL L' ≤ p'.ep + 1 ∧ aL L' w = 2 * p'.ep + 1 ∧ (p'.ln = 0 ∨ p'.ln = 71 ∨ p'.ln = 72))
    (f5 : p'.ln = 3 → aL L' w = 2 * p'.ep + 1)
    (f6 : b' = true → (iL I w = true ∧ p'.ep = (pL P w).ep) ∨ gL L ≤ p'.ep)
    (f7 : p'.ln = 71 → 0 ≤ p'.j ∧ p'.j < N ∧ p'.v ≤ gL L' ∧ (∀ m : Nat, m < N → m ≠ w → (m : Int) < p'.j → iL I m = true → p'.v ≤ (pL P m).ep) ∧ ((w : Int) < p'.j → b' = true → p'.v ≤ p'.ep))
    (f8 : p'.ln = 72 → p'.v ≤ gL L' ∧ (∀ m : Nat, m < N → m ≠ w → iL I m = true → p'.v ≤ (pL P m).ep) ∧ (b' = true → p'.v ≤ p'.ep)) :
    EI N (i + 1) L' (P.set w p') (I.set w b') := by
  have gp : ∀ k, pL (P.set w p') k = if k = w then p' else pL P k := fun k => by
    unfold pL
    rw [gset]
    have := h.nP
    by_cases hk : k = w
    · rw [if_pos ⟨hk, by omega⟩, if_pos hk]
    · rw [if_neg (by omega), if_neg hk]
  have gi : ∀ k, iL (I.set w b') k = if k = w then b' else iL I k := fun k => by
    unfold iL
    rw [gset]
    have := h.nI
    by_cases hk : k = w
    · rw [if_pos ⟨hk, by omega⟩, if_pos hk]
    · rw [if_neg (by omega), if_neg hk]
  have old : ∀ (k m : Nat), m < N → iL (I.set w b') m = true → (pL P k).v ≤ gL L → (m ≠ w → (pL P k).v ≤ (pL P m).ep) → (m = w → iL I w = true → (pL P k).v ≤ (pL P w).ep) → (pL P k).v ≤ (pL (P.set w p') m).ep := by
    intro k m hm hi hv h1 h2
    rw [gi] at hi
    rw [gp]
    by_cases hmw : m = w
    · rw [if_pos hmw] at hi ⊢
      rcases f6 hi with ⟨q1, q2⟩ | q
      · rw [q2]; exact h2 hmw q1
      · omega
    · rw [if_neg hmw] at hi ⊢
      exact h1 hmw
  refine ⟨by rw [e1]; exact h.len, by rw [e1]; exact h.m, e2, by rw [List.length_set]; exact h.nP, by rw [List.length_set]; exact h.nI, ?_, ?_, ?_, ?_, ?_, ?_, ?_⟩
  · have := h.g
    constructor
    · omega
    · omega
  · intro k hk
    rw [gp]
    split
    · exact ⟨f1, f2⟩
    · have := h.pr k hk
      exact ⟨this.1, by omega⟩
  · intro k hk
    rw [gp]
    split
    · exact f3
    · exact h.ln k hk
  · intro k hk
    rw [gi, gp]
    split
    · rename_i hkw; subst hkw; exact f4
    · rename_i hkw
      intro hi
      have := h.ins k hk hi
      exact ⟨e5 k hk hkw hi, by rw [e4 k hk hkw]; exact this.2.1, this.2.2⟩
  · intro k hk
    rw [gp]
    split
    · rename_i hkw; subst hkw; exact f5
    · rename_i hkw
      intro hl
      rw [e4 k hk hkw]
      exact h.l3 k hk hl
  · intro k hk
    rw [gp]
    by_cases hkw : k = w
    · rw [if_pos hkw]
      intro hl
      obtain ⟨q1, q2, q3, q4, q5⟩ := f7 hl
      refine ⟨q1, q2, q3, fun m hm hmj hi => ?_⟩
      rw [gi] at hi
      rw [gp]
      by_cases hmw : m = w
      · rw [if_pos hmw] at hi ⊢
        exact q5 (by omega) hi
      · rw [if_neg hmw] at hi ⊢
        exact q4 m hm hmw hmj hi
    · rw [if_neg hkw]
      intro hl
      obtain ⟨q1, q2, q3, q4⟩ := h.l71 k hk hl
      refine ⟨q1, q2, by omega, fun m hm hmj hi => old k m hm hi q3 (fun hmw => ?_) (fun hmw hi2 => ?_)⟩
      · rw [gi, if_neg hmw] at hi
        exact q4 m hm hmj hi
      · subst hmw
        exact q4 m hm hmj hi2
  · intro k hk
    rw [gp]
    by_cases hkw : k = w
    · rw [if_pos hkw]
      intro hl
      obtain ⟨q3, q4, q5⟩ := f8 hl
      refine ⟨q3, fun m hm hi => ?_⟩
      rw [gi] at hi
      rw [gp]
      by_cases hmw : m = w
      · rw [if_pos hmw] at hi ⊢
        exact q5 hi
      · rw [if_neg hmw] at hi ⊢
        exact q4 m hm hmw hi
    · rw [if_neg hkw]
      intro hl
      obtain ⟨q3, q4⟩ := h.l72 k hk hl
      refine ⟨by omega, fun m hm hi => old k m hm hi q3 (fun hmw => ?_) (fun hmw hi2 => ?_)⟩
      · rw [gi, if_neg hmw] at hi
        exact q4 m hm hi
      · subst hmw
        exact q4 m hm hi2
end Go.Proofs.Ytblkfbbdeodpjaa.Me
