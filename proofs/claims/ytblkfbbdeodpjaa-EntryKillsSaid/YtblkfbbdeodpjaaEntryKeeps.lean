/- What a line of layer 11 keeps (made by genentry3.py). -/
import Derived.Test.YtblkfbbdeodpjaaEntryLine
namespace Go.Proofs.Ytblkfbbdeodpjaa.Me
open Go Go.RowKit Go.Proofs.Ytblkfbbdeodpjaa.Gro Go.Proofs.Ytblkfbbdeodpjaa.Own Go.Proofs.Ytblkfbbdeodpjaa.Wd Go.Proofs.Ytblkfbbdeodpjaa.Ap Go.Proofs.Ytblkfbbdeodpjaa.Pl Go.Proofs.Ytblkfbbdeodpjaa.Wo
set_option linter.unusedVariables false
theorem enNext_rng (c : Cfg) (p : Pl) : 0 ≤ enNext c p ∧ enNext c p < 18446744073709551616 := by unfold enNext; split <;> exact Pk.en_rng _ _ _
theorem entryLn_keeps {c : Cfg} {a : Acc} {L : List Int} {p : Pl} (hL : WR L) (hp : PR p) : Keeps L (entryLn c a L p) := by
  have K := (stackLn_keeps (c := c) (a := a) hL hp).fin
  have e1 : ∀ v : Int, 0 ≤ v ∧ v < 18446744073709551616 → 0 ≤ v / 1048576 ∧ v / 1048576 < 18446744073709551616 := fun v h => by omega
  have lv := fun k => ldV_wr hL k
  unfold entryLn
  split
  · unfold enPop
    split
    · exact ⟨K.len, K.wr, ⟨K.pr.ep, K.pr.h, K.pr.n, K.pr.v, K.pr.u, K.pr.g, K.pr.t⟩⟩
    · exact ⟨K.len, K.wr, K.pr⟩
  split
  · unfold enPush
    split
    · exact ⟨K.len, K.wr, ⟨K.pr.ep, K.pr.h, K.pr.n, K.pr.v, K.pr.u, K.pr.g, K.pr.t⟩⟩
    · exact ⟨K.len, K.wr, K.pr⟩
  split
  · exact ⟨rfl, hL, ⟨hp.ep, hp.h, hp.n, hp.v, hp.u, e1 _ (lv _), hp.t⟩⟩
  split
  · exact ⟨stL_len _ _, stL_wr hL _ (Pk.en_rng _ _ _).1 (Pk.en_rng _ _ _).2, ⟨hp.ep, hp.h, hp.n, hp.v, hp.u, hp.g, Pk.tk_rng _ _⟩⟩
  split
  · unfold enFind
    split
    · exact ⟨rfl, hL, ⟨hp.ep, hp.h, hp.n, lv _, hp.u, hp.g, hp.t⟩⟩
    · exact ⟨rfl, hL, hp⟩
  split
  · unfold en43
    split
    · exact ⟨csL_len _ _ _, csL_wr hL _ _ (enNext_rng _ _).1 (enNext_rng _ _).2, ⟨hp.ep, hp.h, hp.n, hp.v, hp.u, hp.g, hp.t⟩⟩
    · exact ⟨csL_len _ _ _, csL_wr hL _ _ (enNext_rng _ _).1 (enNext_rng _ _).2, ⟨hp.ep, hp.h, hp.n, hp.v, hp.u, hp.g, hp.t⟩⟩
  split
  · unfold en45
    split
    · exact ⟨csL_len _ _ _, csL_wr hL _ _ (Pk.en_rng _ _ _).1 (Pk.en_rng _ _ _).2, ⟨hp.ep, hp.h, hp.n, hp.v, hp.u, hp.g, hp.t⟩⟩
    · exact ⟨csL_len _ _ _, csL_wr hL _ _ (Pk.en_rng _ _ _).1 (Pk.en_rng _ _ _).2, ⟨hp.ep, hp.h, hp.n, hp.v, hp.u, hp.g, hp.t⟩⟩
  · exact ⟨rfl, hL, hp⟩
end Go.Proofs.Ytblkfbbdeodpjaa.Me
