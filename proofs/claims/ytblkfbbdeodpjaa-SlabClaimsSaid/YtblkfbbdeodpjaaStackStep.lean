/- stack.Step, for every state and every word; what a step keeps (made by genaw6.py). -/
import Derived.Test.YtblkfbbdeodpjaaStackLine
namespace Go.Proofs.Ytblkfbbdeodpjaa.Me
open Go Go.RowKit Go.Proofs.Ytblkfbbdeodpjaa.Gro Go.Proofs.Ytblkfbbdeodpjaa.Own Go.Proofs.Ytblkfbbdeodpjaa.Wd Go.Proofs.Ytblkfbbdeodpjaa.Ap Go.Proofs.Ytblkfbbdeodpjaa.Pl Go.Proofs.Ytblkfbbdeodpjaa.Wo
set_option linter.unusedVariables false
set_option linter.unusedSimpArgs false
theorem stackStepAny {B : Nat} {w : World} {g gl cap : Nat} {c : Cfg} {a : Acc} {L : List Int} (M : MemAt B w g c a gl cap L) (hf : c.Wf) (hm : L.length ≤ 1000) (hL : WR L) (s : Wk) (x : St) (hx : Few 1000 x) (h : Lies w s x) (hp : PR x.p) :
    Calls Try.prog 22 #[.pointer (some ⟨g, 0, none⟩), wv s] w (GPost B g gl cap c (stackLn c a L x.p).fin x w) :=
  stackStep M s x hx h _ fun gx s1 w1 H e => by
    have := stackLine H hm hL hf (by rw [e]; exact hp)
    rwa [e] at this
/-- What a step keeps: words are words, their number, the state's words. -/
structure Keeps (L : List Int) (r : Res) : Prop where
  len : r.L.length = L.length
  wr : WR r.L
  pr : PR r.p
theorem Keeps.fin {L : List Int} {r : Res} (h : Keeps L r) : Keeps L r.fin := by
  unfold Res.fin
  split
  · exact h
  · exact ⟨h.len, h.wr, ⟨h.pr.ep, h.pr.h, h.pr.n, h.pr.v, h.pr.u, h.pr.g, h.pr.t⟩⟩
theorem low32_rng (v : Int) : 0 ≤ low32 v ∧ low32 v < 18446744073709551616 := by unfold low32; omega
theorem skNew_rng (t v : Int) : 0 ≤ skNew t v ∧ skNew t v < 18446744073709551616 := Pk.hd_rng _ _
theorem skSwap_keeps {L : List Int} {p : Pl} (hL : WR L) (hp : PR p) (e : Bool) (t k : Int) : Keeps L (skSwap L p e t k) :=
  ⟨csL_len _ _ _, csL_wr hL _ _ (skNew_rng _ _).1 (skNew_rng _ _).2, ⟨hp.ep, hp.h, hp.n, hp.v, hp.u, hp.g, hp.t⟩⟩
theorem stackLn_keeps {c : Cfg} {a : Acc} {L : List Int} {p : Pl} (hL : WR L) (hp : PR p) : Keeps L (stackLn c a L p) := by
  unfold stackLn skGo
  split
  · exact ⟨rfl, hL, ⟨hp.ep, low32_rng _, hp.n, ldV_wr hL _, hp.u, hp.g, hp.t⟩⟩
  split
  · exact ⟨rfl, hL, ⟨hp.ep, hp.h, ldV_wr hL _, hp.v, hp.u, hp.g, hp.t⟩⟩
  split
  · exact skSwap_keeps hL hp _ _ _
  split
  · exact ⟨rfl, hL, ⟨hp.ep, hp.h, hp.n, ldV_wr hL _, hp.u, hp.g, hp.t⟩⟩
  split
  · exact ⟨stL_len _ _, stL_wr hL _ (low32_rng _).1 (low32_rng _).2, ⟨hp.ep, hp.h, hp.n, hp.v, hp.u, hp.g, hp.t⟩⟩
  split
  · exact skSwap_keeps hL hp _ _ _
  · exact ⟨rfl, hL, hp⟩
end Go.Proofs.Ytblkfbbdeodpjaa.Me
