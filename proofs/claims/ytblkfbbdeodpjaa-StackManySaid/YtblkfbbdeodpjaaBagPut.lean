/- bag.Put, bag.Count (made by genbag2.py). -/
import Derived.Test.YtblkfbbdeodpjaaBagPrep
import Derived.BigQuiet
import Derived.Deep.QuietTactic
namespace Go.Proofs.Ytblkfbbdeodpjaa.Wo
open Go Go.RowKit Go.Proofs.Ytblkfbbdeodpjaa.Gro Go.Proofs.Ytblkfbbdeodpjaa.Own Go.Proofs.Ytblkfbbdeodpjaa.Wd Go.Proofs.Ytblkfbbdeodpjaa.Ap Go.Proofs.Ytblkfbbdeodpjaa.Pl
set_option linter.unusedVariables false
set_option linter.unusedSimpArgs false
/-- bag.Put as a function of data. -/
def putB (m : Int) (x : St) (b : Int) : St × Bool :=
  if tagOf x % 3 = 0 then (if ((prep0 x).l0.length : Int) < m then ({ prep0 x with l0 := (prep0 x).l0 ++ [b] }, true) else (prep0 x, false))
  else if tagOf x % 3 = 1 then (if ((prep1 x).l1.length : Int) < m then ({ prep1 x with l1 := (prep1 x).l1 ++ [b] }, true) else (prep1 x, false))
  else (if ((prep2 x).l2.length : Int) < m then ({ prep2 x with l2 := (prep2 x).l2 ++ [b] }, true) else (prep2 x, false))
theorem few_prep0 {x : St} {n m : Nat} (h : Few n x) (hm : n + n ≤ m) : Few m (prep0 x) := by
  have := h.rk; have := h.l0; have := h.l1; have := h.l2; have := h.hl; have := h.rd
  unfold prep0
  split
  · exact ⟨by omega, by omega, by omega, by omega, by omega, by omega⟩
  · exact ⟨by simp; omega, by simp <;> omega, by simp <;> omega, by simp <;> omega, by simp; omega, by simp; omega⟩
theorem few_prep1 {x : St} {n m : Nat} (h : Few n x) (hm : n + n ≤ m) : Few m (prep1 x) := by
  have := h.rk; have := h.l0; have := h.l1; have := h.l2; have := h.hl; have := h.rd
  unfold prep1
  split
  · exact ⟨by omega, by omega, by omega, by omega, by omega, by omega⟩
  · exact ⟨by simp; omega, by simp <;> omega, by simp <;> omega, by simp <;> omega, by simp; omega, by simp; omega⟩
theorem few_prep2 {x : St} {n m : Nat} (h : Few n x) (hm : n + n ≤ m) : Few m (prep2 x) := by
  have := h.rk; have := h.l0; have := h.l1; have := h.l2; have := h.hl; have := h.rd
  unfold prep2
  split
  · exact ⟨by omega, by omega, by omega, by omega, by omega, by omega⟩
  · exact ⟨by simp; omega, by simp <;> omega, by simp <;> omega, by simp <;> omega, by simp; omega, by simp; omega⟩
end Go.Proofs.Ytblkfbbdeodpjaa.Wo
