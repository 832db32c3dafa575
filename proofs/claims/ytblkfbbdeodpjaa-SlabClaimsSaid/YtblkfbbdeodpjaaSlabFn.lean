/- The lines of layer 8 as functions. -/
import Derived.Test.YtblkfbbdeodpjaaStepFn
import Derived.Test.YtblkfbbdeodpjaaStackStep
import Derived.Test.YtblkfbbdeodpjaaSlabReady
namespace Go.Proofs.Ytblkfbbdeodpjaa.Me
open Go Go.RowKit Go.Proofs.Ytblkfbbdeodpjaa.Gro Go.Proofs.Ytblkfbbdeodpjaa.Own Go.Proofs.Ytblkfbbdeodpjaa.Wd Go.Proofs.Ytblkfbbdeodpjaa.Ap Go.Proofs.Ytblkfbbdeodpjaa.Pl Go.Proofs.Ytblkfbbdeodpjaa.Wo
set_option linter.unusedVariables false
set_option linter.unusedSimpArgs false
/-- The address of the word of a block's slab. -/
def slHome (c : Cfg) (k : Int) : Int := aSlab c (aHom c (wrap64 (k - 1)))
def slNow (L : List Int) (k : Int) : Int := IntKind.u64.wrap (ldV L k + 16)
def sl30 (c : Cfg) (L : List Int) (p : Pl) : Res :=
  if slNow L (slHome c p.k) / 16 % 4096 = c.bl then ⟨acc L 4 (slHome c p.k) 16 0, adL L (slHome c p.k) 16, { p with ln := 31 }, 0, true⟩
  else ⟨acc L 4 (slHome c p.k) 16 0, adL L (slHome c p.k) 16, { p with k := 0 }, 1, true⟩
def sl31 (L : List Int) (p : Pl) : Res := ⟨acc L 1 0 0 0, L, { p with v := ldV L 0, ln := 32 }, 0, true⟩
def sl32 (c : Cfg) (L : List Int) (p : Pl) : Res := ⟨acc L 2 (slHome c p.k) (Pk.sl 3 0 p.v) 0, stL L (slHome c p.k) (Pk.sl 3 0 p.v), { p with k := 0 }, 1, true⟩
def sl33 (c : Cfg) (L : List Int) (p : Pl) : Res :=
  if rdyB (ldV L (aSlab c p.j)) p.ep = true then ⟨acc L 1 (aSlab c p.j) 0 0, L, { p with v := ldV L (aSlab c p.j), ln := 34 }, 0, true⟩
  else ⟨acc L 1 (aSlab c p.j) 0 0, L, { p with v := ldV L (aSlab c p.j), j := wrap64 (p.j + 1) }, if c.sl ≤ wrap64 (p.j + 1) then 2 else 0, true⟩
/-- A slab's word is swapped. -/
def slSwap (c : Cfg) (L : List Int) (p : Pl) (j st back : Int) : Res :=
  if csB L (aSlab c j) p.v = true then ⟨acc L 3 (aSlab c j) p.v st, csL L (aSlab c j) p.v st, p, 1, true⟩
  else ⟨acc L 3 (aSlab c j) p.v st, csL L (aSlab c j) p.v st, { p with ln := back }, 0, true⟩
/-- Does the block's slab take it? -/
def slTake (c : Cfg) (L : List Int) (p : Pl) (k : Int) : Res := ⟨acc L 1 (slHome c k) 0 0, L, p, if ldV L (slHome c k) % 16 = 2 then 2 else 1, true⟩
def sl36 (c : Cfg) (L : List Int) (p : Pl) : Res :=
  if ldV L (aSlab c p.o3) % 16 = 1 then ⟨acc L 1 (aSlab c p.o3) 0 0, L, { p with v := ldV L (aSlab c p.o3), ln := 37 }, 0, true⟩
  else ⟨acc L 1 (aSlab c p.o3) 0 0, L, { p with v := ldV L (aSlab c p.o3) }, 2, true⟩
def slabLn (c : Cfg) (a : Acc) (L : List Int) (p : Pl) : Res :=
  if p.ln = 30 then sl30 c L p else if p.ln = 31 then sl31 L p else if p.ln = 32 then sl32 c L p else if p.ln = 33 then sl33 c L p
  else if p.ln = 34 then slSwap c L p p.j 1 33 else if p.ln = 35 then slTake c L p p.b else if p.ln = 36 then sl36 c L p
  else if p.ln = 37 then slSwap c L p p.o3 2 36 else if p.ln = 39 then slTake c L p p.k else ⟨a, L, p, 0, false⟩
theorem slabLn_keeps {c : Cfg} {a : Acc} {L : List Int} {p : Pl} (hL : WR L) (hp : PR p) : Keeps L (slabLn c a L p) := by
  have sw : ∀ j st back, 0 ≤ st → st < 18446744073709551616 → Keeps L (slSwap c L p j st back) := fun j st back h0 h1 => by
    unfold slSwap
    split
    · exact ⟨csL_len _ _ _, csL_wr hL _ _ h0 h1, hp⟩
    · exact ⟨csL_len _ _ _, csL_wr hL _ _ h0 h1, ⟨hp.ep, hp.h, hp.n, hp.v, hp.u, hp.g, hp.t⟩⟩
  have pv : ∀ x : Pl, x.ep = p.ep → x.h = p.h → x.n = p.n → (x.v = p.v ∨ ∃ k, x.v = ldV L k) → x.u = p.u → x.g = p.g → x.t = p.t → PR x := fun x e1 e2 e3 e4 e5 e6 e7 =>
    ⟨e1 ▸ hp.ep, e2 ▸ hp.h, e3 ▸ hp.n, e4.elim (fun e => e ▸ hp.v) (fun ⟨k, e⟩ => e ▸ ldV_wr hL k), e5 ▸ hp.u, e6 ▸ hp.g, e7 ▸ hp.t⟩
  unfold slabLn
  split
  · unfold sl30
    split
    · exact ⟨adL_len _ _, adL_wr hL _ _, pv _ rfl rfl rfl (.inl rfl) rfl rfl rfl⟩
    · exact ⟨adL_len _ _, adL_wr hL _ _, pv _ rfl rfl rfl (.inl rfl) rfl rfl rfl⟩
  split
  · exact ⟨rfl, hL, pv _ rfl rfl rfl (.inr ⟨_, rfl⟩) rfl rfl rfl⟩
  split
  · exact ⟨stL_len _ _, stL_wr hL _ (Pk.sl_rng _ _ _).1 (Pk.sl_rng _ _ _).2, pv _ rfl rfl rfl (.inl rfl) rfl rfl rfl⟩
  split
  · unfold sl33
    split
    · exact ⟨rfl, hL, pv _ rfl rfl rfl (.inr ⟨_, rfl⟩) rfl rfl rfl⟩
    · exact ⟨rfl, hL, pv _ rfl rfl rfl (.inr ⟨_, rfl⟩) rfl rfl rfl⟩
  split
  · exact sw _ _ _ (by omega) (by omega)
  split
  · exact ⟨rfl, hL, hp⟩
  split
  · unfold sl36
    split
    · exact ⟨rfl, hL, pv _ rfl rfl rfl (.inr ⟨_, rfl⟩) rfl rfl rfl⟩
    · exact ⟨rfl, hL, pv _ rfl rfl rfl (.inr ⟨_, rfl⟩) rfl rfl rfl⟩
  split
  · exact sw _ _ _ (by omega) (by omega)
  split
  · exact ⟨rfl, hL, hp⟩
  · exact ⟨rfl, hL, hp⟩
/-- A slab that is none reads as ready. -/
theorem rdy_out {c : Cfg} {L : List Int} {j e : Int} (h : aSlab c j < 0) : rdyB (ldV L (aSlab c j)) e = true := by
  rw [ldV_out (by omega)]
  simp [rdyB, rdy0]
theorem slab_last {c : Cfg} {L : List Int} {j e : Int} (h : rdyB (ldV L (aSlab c j)) e = false) : (c.sl ≤ wrap64 (j + 1)) ↔ (wrap64 (c.sl - 1) ≤ j) := by
  have h0 : ¬ aSlab c j < 0 := fun h1 => by rw [rdy_out h1] at h; cases h
  unfold aSlab at h0
  split at h0
  · rename_i hb
    obtain ⟨hk, hj0, hj1⟩ := hasB_spec hb
    have hc : chk c = 0 := Classical.byContradiction fun hn => by rw [okB_false hn] at hk; cases hk
    have := (chk_ok.1 hc).sl
    rw [IntWalk.wrap64_in _ (by omega), IntWalk.wrap64_in _ (by omega)]
    omega
  · omega
end Go.Proofs.Ytblkfbbdeodpjaa.Me
