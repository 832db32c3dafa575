/- EntryKills: what a pick does to the words and to the workers' states (made by genek.py). -/
import Derived.Test.YtblkfbbdeodpjaaEcNum
import Derived.Test.YtblkfbbdeodpjaaFirsts
namespace Go.Proofs.Ytblkfbbdeodpjaa.Me
open Go Go.RowKit Go.Proofs.Ytblkfbbdeodpjaa.Gro Go.Proofs.Ytblkfbbdeodpjaa.Own Go.Proofs.Ytblkfbbdeodpjaa.Wd Go.Proofs.Ytblkfbbdeodpjaa.Ap Go.Proofs.Ytblkfbbdeodpjaa.Pl Go.Proofs.Ytblkfbbdeodpjaa.Wo
set_option linter.unusedVariables false
set_option linter.unusedSimpArgs false
theorem ekset {α : Type} (l : List α) (w k : Nat) (x d : α) : (l.set w x).getD k d = if k = w ∧ w < l.length then x else l.getD k d := by
  rw [List.getD_eq_getElem?_getD, List.getElem?_set, List.getD_eq_getElem?_getD]
  by_cases h : w = k
  · subst h
    by_cases h2 : w < l.length
    · simp [h2]
    · rw [if_pos rfl, if_neg h2, if_neg (by omega), List.getElem?_eq_none (by omega)]
  · rw [if_neg h, if_neg (by omega)]
theorem ldV_gd {L : List Int} {i : Nat} (hi : i < L.length) : ldV L (i : Int) = L.getD i 0 := by
  unfold ldV
  rw [if_pos ⟨by omega, by omega⟩]
  simp
theorem csB_gd {L : List Int} {i : Nat} (hi : i < L.length) (x : Int) : csB L (i : Int) x = decide (L.getD i 0 = x) := by
  unfold csB
  rw [decide_eq_true (show 0 ≤ (i : Int) ∧ (i : Int) < (L.length : Int) from ⟨by omega, by omega⟩)]
  simp
def ekp (P : List Pl) (k : Nat) : Pl := P.getD k pz
abbrev cEk (N : Nat) (la : Int) : Cfg := ⟨N, 1, 4, 1, 1, 0, 1, la⟩
section
variable {N : Nat} {la : Int} (h : 2 ≤ N ∧ N ≤ 6) (hl : 1 ≤ la ∧ la ≤ 3)
include h hl
theorem cEk_chk : chk (cEk N la) = 0 := chk_ok.2 ⟨by simp only; omega, by simp only; omega, by simp only; omega, by simp only; omega, by simp only; omega, by simp only; omega, by simp only; omega, by simp only; omega⟩
theorem cEk_wf : (cEk N la).Wf := by
  have hh := h.1
  constructor <;> simp only [] <;> omega
theorem cEk_hb : hasB (cEk N la) 0 (cEk N la).en = true := by
  unfold hasB
  rw [okB_of_ok (chk_ok.1 (cEk_chk h hl))]
  rfl
theorem cEk_ent : aEnt (cEk N la) 0 = ((4 + N : Nat) : Int) := by
  rw [aEnt, if_pos (cEk_hb h hl)]
  simp only
  omega
theorem cEk_enl : aEnl (cEk N la) 0 = ((5 + N : Nat) : Int) := by
  rw [aEnl, if_pos (cEk_hb h hl)]
  simp only
  omega
theorem cEk_siz : siz (cEk N la) = 14 + (N : Int) := by
  rw [siz, if_pos (okB_of_ok (chk_ok.1 (cEk_chk h hl)))]
  simp only
  omega
theorem cEk_good : goodB (cEk N la) 65537 = true := by
  unfold goodB
  rw [show (65537 : Int) % 65536 - 1 = 0 by decide, cEk_hb h hl, show (65537 : Int) / 65536 = 1 by decide]
  simp
  omega
end
/-- A worker's state, where the entry's word is e and the ticket is dead or not. -/
def EkS (d : Bool) (e : Int) (p : Pl) : Prop :=
  p.ln = 0 ∨ (p.ln = 42 ∧ p.t = 65537) ∨ (p.ln = 43 ∧ p.t = 65537 ∧ p.v = 1048609) ∨
  (d = true ∧ e / 1048576 ≠ 1 ∧ ((p.ln = 20 ∧ p.b = 3) ∨ (p.ln = 21 ∧ p.h = 1 ∧ p.b = 3) ∨ (p.ln = 22 ∧ p.h = 1 ∧ p.b = 3 ∧ (p.n = 0 ∨ p.n = 1)) ∨ (p.ln = 40 ∧ p.i = 1 ∧ p.b = 3) ∨ (p.ln = 41 ∧ p.i = 1 ∧ p.b = 3 ∧ p.g ≠ 1 ∧ p.g < 17592186044416) ∨ (p.ln = 23 ∧ p.i = 1) ∨ (p.ln = 24 ∧ p.i = 1 ∧ (low32 p.v = 0 ∨ low32 p.v = 1)) ∨ (p.ln = 25 ∧ p.i = 1 ∧ (low32 p.v = 0 ∨ low32 p.v = 1))))
structure EkI (N : Nat) (d : Bool) (L : List Int) (P : List Pl) : Prop where
  len : L.length = 14 + N
  wr : WR L
  nP : P.length = N
  hd : low32 (L.getD 2 0) = 0 ∨ low32 (L.getD 2 0) = 1
  lk : L.getD (5 + N) 0 = 0 ∨ L.getD (5 + N) 0 = 1
  live : d = false → L.getD (4 + N) 0 = 1048609
  dead : d = true → enB (L.getD (4 + N) 0) 1 = false
  pr : ∀ k, k < N → PR (ekp P k)
  st : ∀ k, k < N → EkS d (L.getD (4 + N) 0) (ekp P k)
theorem EkI.upd {N w : Nat} {d d' : Bool} {L L' : List Int} {P : List Pl} (h : EkI N d L P) (hw : w < N) (q : Pl)
    (e1 : L'.length = L.length) (e2 : WR L') (e3 : low32 (L'.getD 2 0) = 0 ∨ low32 (L'.getD 2 0) = 1) (e4 : L'.getD (5 + N) 0 = 0 ∨ L'.getD (5 + N) 0 = 1)
    (e5 : d' = false → L'.getD (4 + N) 0 = 1048609) (e6 : d' = true → enB (L'.getD (4 + N) 0) 1 = false) (f1 : PR q) (f2 : EkS d' (L'.getD (4 + N) 0) q)
    (f3 : ∀ p, EkS d (L.getD (4 + N) 0) p → EkS d' (L'.getD (4 + N) 0) p) : EkI N d' L' (P.set w q) := by
  have gp : ∀ k, ekp (P.set w q) k = if k = w then q else ekp P k := fun k => by
    unfold ekp
    rw [ekset]
    have := h.nP
    by_cases hk : k = w
    · rw [if_pos ⟨hk, by omega⟩, if_pos hk]
    · rw [if_neg (by omega), if_neg hk]
  refine ⟨by rw [e1]; exact h.len, e2, by rw [List.length_set]; exact h.nP, e3, e4, e5, e6, ?_, ?_⟩
  · intro k hk
    rw [gp]
    split
    · exact f1
    · exact h.pr k hk
  · intro k hk
    rw [gp]
    split
    · exact f2
    · exact f3 _ (h.st k hk)
/-- Nothing is written. -/
theorem EkI.same {N w : Nat} {d : Bool} {L : List Int} {P : List Pl} (h : EkI N d L P) (hw : w < N) (q : Pl) (f1 : PR q) (f2 : EkS d (L.getD (4 + N) 0) q) : EkI N d L (P.set w q) :=
  h.upd hw q rfl h.wr h.hd h.lk h.live h.dead f1 f2 fun _ hp => hp
theorem pr_z : PR pz := by constructor <;> decide
/-- How a pick ends. -/
def EkO (N : Nat) (d : Bool) (P : List Pl) (w : Nat) (p : Pl) (r : Res) : Prop :=
  ∃ (d' : Bool) (q : Pl), EkI N d' r.L (P.set w q) ∧ r.ok = true ∧
    ((r.way = 0 ∧ q = r.p ∧ d' = d ∧ p.ln ≠ 41 ∧ p.ln ≠ 42) ∨ (r.way = 2 ∧ q = pz ∧ d' = d ∧ (p.ln = 42 ∨ p.ln = 20)) ∨ (r.way = 1 ∧ p.ln = 42 ∧ d = false ∧ d' = false ∧ q = { r.p with ln := 43 })
    ∨ (r.way = 1 ∧ p.ln = 43 ∧ d = false ∧ d' = true ∧ 0 < r.p.i ∧ q = { r.p with ln := 23 }) ∨ (r.way = 1 ∧ p.ln = 43 ∧ d = false ∧ d' = true ∧ ¬ 0 < r.p.i ∧ q = r.p)
    ∨ (r.way = 1 ∧ p.ln = 25 ∧ q = { pz with ln := 20, b := 3, t := 65537 } ∧ d' = d) ∨ (r.way = 1 ∧ p.ln = 41 ∧ r.p.t ≠ 65537 ∧ q = pz ∧ d' = d))
section
variable {N w : Nat} {la : Int} {a : Acc} {d : Bool} {L : List Int} {P : List Pl} {p : Pl}
theorem ek_pop (hl : p.ln = 20 ∨ p.ln = 21 ∨ p.ln = 22) (c : Cfg) : entryLn c a L p = enPop c a L p := by
  unfold entryLn; rw [if_pos hl]
theorem ek_push (hl : p.ln = 23 ∨ p.ln = 24 ∨ p.ln = 25) (c : Cfg) : entryLn c a L p = enPush c a L p := by
  unfold entryLn; rw [if_neg (by omega), if_pos hl]
theorem sk20 (hl : p.ln = 20) (c : Cfg) : stackLn c a L p = sk10 c L p true := by
  unfold stackLn skGo; rw [hl]; simp [skLn]
theorem sk21 (hl : p.ln = 21) (c : Cfg) : stackLn c a L p = sk11 c L p true := by
  unfold stackLn skGo; rw [hl]; simp [skLn]
theorem sk22 (hl : p.ln = 22) (c : Cfg) : stackLn c a L p = sk12 c L p true := by
  unfold stackLn skGo; rw [hl]; simp [skLn]
theorem sk23 (hl : p.ln = 23) (c : Cfg) : stackLn c a L p = sk13 c L p true := by
  unfold stackLn skGo; rw [hl]; simp [skLn]
theorem sk24 (hl : p.ln = 24) (c : Cfg) : stackLn c a L p = sk14 c L p true := by
  unfold stackLn skGo; rw [hl]; simp [skLn]
theorem sk25 (hl : p.ln = 25) (c : Cfg) : stackLn c a L p = sk15 c L p true := by
  unfold stackLn skGo; rw [hl]; simp [skLn]
theorem EkS.act {e : Int} (h : EkS d e p) (h1 : p.ln ≠ 0) (h2 : p.ln ≠ 42) (h3 : p.ln ≠ 43) : d = true ∧ e / 1048576 ≠ 1 ∧ ((p.ln = 20 ∧ p.b = 3) ∨ (p.ln = 21 ∧ p.h = 1 ∧ p.b = 3) ∨ (p.ln = 22 ∧ p.h = 1 ∧ p.b = 3 ∧ (p.n = 0 ∨ p.n = 1)) ∨ (p.ln = 40 ∧ p.i = 1 ∧ p.b = 3) ∨ (p.ln = 41 ∧ p.i = 1 ∧ p.b = 3 ∧ p.g ≠ 1 ∧ p.g < 17592186044416) ∨ (p.ln = 23 ∧ p.i = 1) ∨ (p.ln = 24 ∧ p.i = 1 ∧ (low32 p.v = 0 ∨ low32 p.v = 1)) ∨ (p.ln = 25 ∧ p.i = 1 ∧ (low32 p.v = 0 ∨ low32 p.v = 1))) := by
  rcases h with h | h | h | h
  · omega
  · omega
  · omega
  · exact h
theorem low_hd (x y : Int) (hx : 0 ≤ x + 1 ∧ x + 1 ≤ 1) : low32 (skNew x y) = x + 1 := by
  unfold low32 skNew Pk.hd
  omega
theorem ek20 (h : EkI N d L P) (hw : w < N) (hp : ekp P w = p) (hl : p.ln = 20) : EkO N d P w p (entryLn (cEk N la) a L p).fin := by
  have hlen := h.len
  have hs := h.st w hw
  have hq := h.pr w hw
  rw [hp] at hs hq
  obtain ⟨hd, he, hs⟩ := hs.act (by omega) (by omega) (by omega)
  have hv : ldV L 2 = L.getD 2 0 := ldV_gd (i := 2) (by omega)
  have K := (entryLn_keeps (c := cEk N la) (a := a) h.wr hq).fin
  by_cases hz : low32 (ldV L 2) = 0
  · have er : (entryLn (cEk N la) a L p).fin = ⟨acc L 1 2 0 0, L, { p with v := ldV L 2, h := low32 (ldV L 2), ln := 0 }, 2, true⟩ := by
      rw [ek_pop (.inl hl)]
      unfold enPop
      rw [sk20 hl]
      simp [sk10, skH, Res.fin, hz]
    rw [er] at K ⊢
    exact ⟨d, pz, h.same hw _ pr_z (.inl rfl), rfl, .inr (.inl ⟨rfl, rfl, rfl, .inr hl⟩)⟩
  · have er : (entryLn (cEk N la) a L p).fin = ⟨acc L 1 2 0 0, L, { p with v := ldV L 2, h := low32 (ldV L 2), ln := 21 }, 0, true⟩ := by
      rw [ek_pop (.inl hl)]
      unfold enPop
      rw [sk20 hl]
      simp [sk10, skH, skLn, Res.fin, hz]
    rw [er] at K ⊢
    have h1 : low32 (ldV L 2) = 1 := by have := h.hd; rw [← hv] at this; omega
    refine ⟨d, _, h.same hw _ K.pr (.inr (.inr (.inr ⟨hd, he, ?_⟩))), rfl, .inl ⟨rfl, rfl, rfl, by omega, by omega⟩⟩
    exact .inr (.inl ⟨rfl, h1, show p.b = 3 by omega⟩)
theorem ek21 (hN : 2 ≤ N ∧ N ≤ 6) (hla : 1 ≤ la ∧ la ≤ 3) (h : EkI N d L P) (hw : w < N) (hp : ekp P w = p) (hl : p.ln = 21) : EkO N d P w p (entryLn (cEk N la) a L p).fin := by
  have hlen := h.len
  have hs := h.st w hw
  have hq := h.pr w hw
  rw [hp] at hs hq
  obtain ⟨hd, he, hs⟩ := hs.act (by omega) (by omega) (by omega)
  have hh : p.h = 1 := by omega
  have hk : skLk (cEk N la) true (wrap64 (p.h - 1)) = ((5 + N : Nat) : Int) := by
    rw [hh, show wrap64 (1 - 1) = 0 by unfold wrap64; omega]
    exact cEk_enl hN hla
  have hv : ldV L ((5 + N : Nat) : Int) = L.getD (5 + N) 0 := ldV_gd (by omega)
  have K := (entryLn_keeps (c := cEk N la) (a := a) h.wr hq).fin
  have er : (entryLn (cEk N la) a L p).fin = ⟨acc L 1 ((5 + N : Nat) : Int) 0 0, L, { p with n := L.getD (5 + N) 0, ln := 22 }, 0, true⟩ := by
    rw [ek_pop (.inr (.inl hl))]
    unfold enPop
    rw [sk21 hl]
    unfold sk11
    rw [hk, hv]
    simp [skLn, Res.fin]
  rw [er] at K ⊢
  have h1 := h.lk
  refine ⟨d, _, h.same hw _ K.pr (.inr (.inr (.inr ⟨hd, he, ?_⟩))), rfl, .inl ⟨rfl, rfl, rfl, by omega, by omega⟩⟩
  exact .inr (.inr (.inl ⟨rfl, hh, show p.b = 3 by omega, h1⟩))
theorem ek22 (hN : 2 ≤ N ∧ N ≤ 6) (hla : 1 ≤ la ∧ la ≤ 3) (h : EkI N d L P) (hw : w < N) (hp : ekp P w = p) (hl : p.ln = 22) : EkO N d P w p (entryLn (cEk N la) a L p).fin := by
  have hlen := h.len
  have hs := h.st w hw
  have hq := h.pr w hw
  rw [hp] at hs hq
  obtain ⟨hd, he, hs⟩ := hs.act (by omega) (by omega) (by omega)
  have hh : p.h = 1 := by omega
  have hn : low32 p.n = 0 ∨ low32 p.n = 1 := by
    rcases (show p.n = 0 ∨ p.n = 1 by omega) with e | e <;> rw [e]
    · exact .inl rfl
    · exact .inr rfl
  have K := (entryLn_keeps (c := cEk N la) (a := a) h.wr hq).fin
  by_cases hc : csB L 2 p.v = true
  · have er : (entryLn (cEk N la) a L p).fin = ⟨acc L 3 2 p.v (skNew (low32 p.n - 1) p.v), L.set 2 (skNew (low32 p.n - 1) p.v), { p with i := 1, ln := 40 }, 0, true⟩ := by
      rw [ek_pop (.inr (.inr hl))]
      unfold enPop
      rw [sk22 hl]
      unfold sk12 skSwap
      have hwr : wrap64 (1 : Int) = 1 := by unfold wrap64; omega
      simp [skH, hc, Res.fin, csL_yes hc, hh, hwr]
    rw [er] at K ⊢
    have g2 : ((L.set 2 (skNew (low32 p.n - 1) p.v)).getD 2 0) = skNew (low32 p.n - 1) p.v := by rw [ekset, if_pos ⟨rfl, by omega⟩]
    have g4 : ((L.set 2 (skNew (low32 p.n - 1) p.v)).getD (4 + N) 0) = L.getD (4 + N) 0 := by rw [ekset, if_neg (by omega)]
    have g5 : ((L.set 2 (skNew (low32 p.n - 1) p.v)).getD (5 + N) 0) = L.getD (5 + N) 0 := by rw [ekset, if_neg (by omega)]
    have hlo := low_hd (low32 p.n - 1) p.v (by omega)
    refine ⟨d, _, h.upd hw _ (by simp) K.wr (by rw [g2, hlo]; omega) (by rw [g5]; exact h.lk) (by rw [g4]; exact h.live) (by rw [g4]; exact h.dead) K.pr (.inr (.inr (.inr ⟨hd, by rw [g4]; exact he, ?_⟩))) (by rw [g4]; exact fun _ x => x), rfl, .inl ⟨rfl, rfl, rfl, by omega, by omega⟩⟩
    exact .inr (.inr (.inr (.inl ⟨rfl, rfl, show p.b = 3 by omega⟩)))
  · have hc' : csB L 2 p.v = false := by simpa using hc
    have er : (entryLn (cEk N la) a L p).fin = ⟨acc L 3 2 p.v (skNew (low32 p.n - 1) p.v), L, { p with ln := 20 }, 0, true⟩ := by
      rw [ek_pop (.inr (.inr hl))]
      unfold enPop
      rw [sk22 hl]
      unfold sk12 skSwap
      simp [skH, skLn, hc', Res.fin, csL_no hc']
    rw [er] at K ⊢
    refine ⟨d, _, h.same hw _ K.pr (.inr (.inr (.inr ⟨hd, he, ?_⟩))), rfl, .inl ⟨rfl, rfl, rfl, by omega, by omega⟩⟩
    exact .inl ⟨rfl, show p.b = 3 by omega⟩
theorem ek23 (h : EkI N d L P) (hw : w < N) (hp : ekp P w = p) (hl : p.ln = 23) : EkO N d P w p (entryLn (cEk N la) a L p).fin := by
  have hlen := h.len
  have hs := h.st w hw
  have hq := h.pr w hw
  rw [hp] at hs hq
  obtain ⟨hd, he, hs⟩ := hs.act (by omega) (by omega) (by omega)
  have hv : ldV L 2 = L.getD 2 0 := ldV_gd (i := 2) (by omega)
  have K := (entryLn_keeps (c := cEk N la) (a := a) h.wr hq).fin
  have er : (entryLn (cEk N la) a L p).fin = ⟨acc L 1 2 0 0, L, { p with v := L.getD 2 0, ln := 24 }, 0, true⟩ := by
    rw [ek_push (.inl hl)]
    unfold enPush
    rw [sk23 hl]
    unfold sk13
    simp [skH, skLn, Res.fin, hv]
  rw [er] at K ⊢
  have h1 := h.hd
  refine ⟨d, _, h.same hw _ K.pr (.inr (.inr (.inr ⟨hd, he, ?_⟩))), rfl, .inl ⟨rfl, rfl, rfl, by omega, by omega⟩⟩
  exact .inr (.inr (.inr (.inr (.inr (.inr (.inl ⟨rfl, show p.i = 1 by omega, h1⟩))))))
theorem ek24 (hN : 2 ≤ N ∧ N ≤ 6) (hla : 1 ≤ la ∧ la ≤ 3) (h : EkI N d L P) (hw : w < N) (hp : ekp P w = p) (hl : p.ln = 24) : EkO N d P w p (entryLn (cEk N la) a L p).fin := by
  have hlen := h.len
  have hs := h.st w hw
  have hq := h.pr w hw
  rw [hp] at hs hq
  obtain ⟨hd, he, hs⟩ := hs.act (by omega) (by omega) (by omega)
  have hi : p.i = 1 := by omega
  have hk : skLk (cEk N la) true (skPut true p) = ((5 + N : Nat) : Int) := by
    unfold skPut
    rw [if_pos rfl, hi, show wrap64 (1 - 1) = 0 by unfold wrap64; omega]
    exact cEk_enl hN hla
  have K := (entryLn_keeps (c := cEk N la) (a := a) h.wr hq).fin
  have er : (entryLn (cEk N la) a L p).fin = ⟨acc L 2 ((5 + N : Nat) : Int) (low32 p.v) 0, L.set (5 + N) (low32 p.v), { p with ln := 25 }, 0, true⟩ := by
    rw [ek_push (.inr (.inl hl))]
    unfold enPush
    rw [sk24 hl]
    unfold sk14
    rw [hk, stL_at (by omega)]
    simp [skLn, Res.fin]
  rw [er] at K ⊢
  have g2 : ((L.set (5 + N) (low32 p.v)).getD 2 0) = L.getD 2 0 := by rw [ekset, if_neg (by omega)]
  have g4 : ((L.set (5 + N) (low32 p.v)).getD (4 + N) 0) = L.getD (4 + N) 0 := by rw [ekset, if_neg (by omega)]
  have g5 : ((L.set (5 + N) (low32 p.v)).getD (5 + N) 0) = low32 p.v := by rw [ekset, if_pos ⟨rfl, by omega⟩]
  refine ⟨d, _, h.upd hw _ (by simp) K.wr (by rw [g2]; exact h.hd) (by rw [g5]; omega) (by rw [g4]; exact h.live) (by rw [g4]; exact h.dead) K.pr (.inr (.inr (.inr ⟨hd, by rw [g4]; exact he, ?_⟩))) (by rw [g4]; exact fun _ x => x), rfl, .inl ⟨rfl, rfl, rfl, by omega, by omega⟩⟩
  exact .inr (.inr (.inr (.inr (.inr (.inr (.inr ⟨rfl, hi, show low32 p.v = 0 ∨ low32 p.v = 1 by omega⟩))))))
theorem ek25 (h : EkI N d L P) (hw : w < N) (hp : ekp P w = p) (hl : p.ln = 25) : EkO N d P w p (entryLn (cEk N la) a L p).fin := by
  have hlen := h.len
  have hs := h.st w hw
  have hq := h.pr w hw
  rw [hp] at hs hq
  obtain ⟨hd, he, hs⟩ := hs.act (by omega) (by omega) (by omega)
  have hi : p.i = 1 := by omega
  have hk : skPut true p = 0 := by
    unfold skPut
    rw [if_pos rfl, hi]
    unfold wrap64
    omega
  have K := (entryLn_keeps (c := cEk N la) (a := a) h.wr hq).fin
  by_cases hc : csB L 2 p.v = true
  · have er : (entryLn (cEk N la) a L p).fin = ⟨acc L 3 2 p.v (skNew 0 p.v), L.set 2 (skNew 0 p.v), { p with i := 0, ln := 0 }, 1, true⟩ := by
      rw [ek_push (.inr (.inr hl))]
      unfold enPush
      rw [sk25 hl]
      unfold sk15 skSwap
      rw [hk]
      simp [skH, hc, Res.fin, csL_yes hc]
    rw [er] at K ⊢
    have g2 : ((L.set 2 (skNew 0 p.v)).getD 2 0) = skNew 0 p.v := by rw [ekset, if_pos ⟨rfl, by omega⟩]
    have g4 : ((L.set 2 (skNew 0 p.v)).getD (4 + N) 0) = L.getD (4 + N) 0 := by rw [ekset, if_neg (by omega)]
    have g5 : ((L.set 2 (skNew 0 p.v)).getD (5 + N) 0) = L.getD (5 + N) 0 := by rw [ekset, if_neg (by omega)]
    have hlo := low_hd 0 p.v (by omega)
    refine ⟨d, { pz with ln := 20, b := 3, t := 65537 }, h.upd hw _ (by simp) K.wr (by rw [g2, hlo]; omega) (by rw [g5]; exact h.lk) (by rw [g4]; exact h.live) (by rw [g4]; exact h.dead) (by constructor <;> decide) (.inr (.inr (.inr ⟨hd, by rw [g4]; exact he, .inl ⟨rfl, rfl⟩⟩))) (by rw [g4]; exact fun _ x => x), rfl, ?_⟩
    exact .inr (.inr (.inr (.inr (.inr (.inl ⟨rfl, hl, rfl, rfl⟩)))))
  · have hc' : csB L 2 p.v = false := by simpa using hc
    have er : (entryLn (cEk N la) a L p).fin = ⟨acc L 3 2 p.v (skNew 0 p.v), L, { p with ln := 23 }, 0, true⟩ := by
      rw [ek_push (.inr (.inr hl))]
      unfold enPush
      rw [sk25 hl]
      unfold sk15 skSwap
      rw [hk]
      simp [skH, skLn, hc', Res.fin, csL_no hc']
    rw [er] at K ⊢
    refine ⟨d, _, h.same hw _ K.pr (.inr (.inr (.inr ⟨hd, he, ?_⟩))), rfl, .inl ⟨rfl, rfl, rfl, by omega, by omega⟩⟩
    exact .inr (.inr (.inr (.inr (.inr (.inl ⟨rfl, hi⟩)))))
theorem ek40 (hN : 2 ≤ N ∧ N ≤ 6) (hla : 1 ≤ la ∧ la ≤ 3) (h : EkI N d L P) (hw : w < N) (hp : ekp P w = p) (hl : p.ln = 40) : EkO N d P w p (entryLn (cEk N la) a L p).fin := by
  have hlen := h.len
  have hs := h.st w hw
  have hq := h.pr w hw
  rw [hp] at hs hq
  obtain ⟨hd, he, hs⟩ := hs.act (by omega) (by omega) (by omega)
  have hi : p.i = 1 := by omega
  have hk : enI (cEk N la) p = ((4 + N : Nat) : Int) := by
    unfold enI
    rw [hi, show wrap64 (1 - 1) = 0 by unfold wrap64; omega]
    exact cEk_ent hN hla
  have hv : ldV L ((4 + N : Nat) : Int) = L.getD (4 + N) 0 := ldV_gd (by omega)
  have hr := ldV_wr h.wr ((4 + N : Nat) : Int)
  rw [hv] at hr
  have K := (entryLn_keeps (c := cEk N la) (a := a) h.wr hq).fin
  have er : (entryLn (cEk N la) a L p).fin = ⟨acc L 1 ((4 + N : Nat) : Int) 0 0, L, { p with g := L.getD (4 + N) 0 / 1048576, ln := 41 }, 0, true⟩ := by
    have e1 : entryLn (cEk N la) a L p = en40 (cEk N la) L p := by unfold entryLn; simp [hl]
    rw [e1]
    unfold en40
    rw [hk, hv]
    simp [Res.fin]
  rw [er] at K ⊢
  refine ⟨d, _, h.same hw _ K.pr (.inr (.inr (.inr ⟨hd, he, ?_⟩))), rfl, .inl ⟨rfl, rfl, rfl, by omega, by omega⟩⟩
  exact .inr (.inr (.inr (.inr (.inl ⟨rfl, hi, show p.b = 3 by omega, he, show L.getD (4 + N) 0 / 1048576 < 17592186044416 by omega⟩))))
theorem ek41 (hN : 2 ≤ N ∧ N ≤ 6) (hla : 1 ≤ la ∧ la ≤ 3) (h : EkI N d L P) (hw : w < N) (hp : ekp P w = p) (hl : p.ln = 41) : EkO N d P w p (entryLn (cEk N la) a L p).fin := by
  have hlen := h.len
  have hs := h.st w hw
  have hq := h.pr w hw
  rw [hp] at hs hq
  obtain ⟨hd, he, hs⟩ := hs.act (by omega) (by omega) (by omega)
  have hi : p.i = 1 := by omega
  have hb : p.b = 3 := by omega
  have hg : p.g ≠ 1 ∧ p.g < 17592186044416 := by omega
  have hg0 := hq.g.1
  have hk : enI (cEk N la) p = ((4 + N : Nat) : Int) := by
    unfold enI
    rw [hi, show wrap64 (1 - 1) = 0 by unfold wrap64; omega]
    exact cEk_ent hN hla
  have K := (entryLn_keeps (c := cEk N la) (a := a) h.wr hq).fin
  have w0 : wrap64 (1 - 1) = 0 := by unfold wrap64; omega
  have w2 : wrap64 (3 - 1) = 2 := by unfold wrap64; omega
  have er : (entryLn (cEk N la) a L p).fin = ⟨acc L 2 ((4 + N : Nat) : Int) (Pk.en p.g 2 1) 0, L.set (4 + N) (Pk.en p.g 2 1), { p with t := Pk.tk 0 p.g, i := 0, b := 0, ln := 0 }, 1, true⟩ := by
    have e1 : entryLn (cEk N la) a L p = en41 (cEk N la) L p := by unfold entryLn; simp [hl]
    rw [e1]
    unfold en41
    rw [hk, stL_at (by omega), hb, hi, w0, w2]
    simp [Res.fin]
  rw [er] at K ⊢
  have g2 : ((L.set (4 + N) (Pk.en p.g 2 1)).getD 2 0) = L.getD 2 0 := by rw [ekset, if_neg (by omega)]
  have g4 : ((L.set (4 + N) (Pk.en p.g 2 1)).getD (4 + N) 0) = Pk.en p.g 2 1 := by rw [ekset, if_pos ⟨rfl, by omega⟩]
  have g5 : ((L.set (4 + N) (Pk.en p.g 2 1)).getD (5 + N) 0) = L.getD (5 + N) 0 := by rw [ekset, if_neg (by omega)]
  have q1 : Pk.en p.g 2 1 / 1048576 = p.g := by unfold Pk.en; omega
  have q2 : enB (Pk.en p.g 2 1) 1 = false := by
    unfold enB
    rw [q1]
    simp [hg.1]
  have q3 : Pk.tk 0 p.g ≠ 65537 := by unfold Pk.tk; omega
  refine ⟨d, pz, h.upd hw _ (by simp) K.wr (by rw [g2]; exact h.hd) (by rw [g5]; exact h.lk) (fun q => by rw [hd] at q; cases q) (fun _ => by rw [g4]; exact q2) pr_z (.inl rfl) ?_, rfl, ?_⟩
  · intro x hx
    rw [g4]
    rcases hx with hx | hx | hx | ⟨_, _, hx⟩
    · exact .inl hx
    · exact .inr (.inl hx)
    · exact .inr (.inr (.inl hx))
    · exact .inr (.inr (.inr ⟨hd, by rw [q1]; exact hg.1, hx⟩))
  · exact .inr (.inr (.inr (.inr (.inr (.inr ⟨rfl, hl, q3, rfl, rfl⟩)))))
theorem ek42 (hN : 2 ≤ N ∧ N ≤ 6) (hla : 1 ≤ la ∧ la ≤ 3) (h : EkI N d L P) (hw : w < N) (hp : ekp P w = p) (hl : p.ln = 42) : EkO N d P w p (entryLn (cEk N la) a L p).fin := by
  have hlen := h.len
  have hs := h.st w hw
  have hq := h.pr w hw
  rw [hp] at hs hq
  have ht : p.t = 65537 := by
    rcases hs with hs | hs | hs | ⟨_, _, hs⟩ <;> omega
  have hk : enT (cEk N la) p = ((4 + N : Nat) : Int) := by
    unfold enT
    rw [ht, show (65537 : Int) % 65536 - 1 = 0 by decide]
    exact cEk_ent hN hla
  have h1 : p.t / 65536 = 1 := by omega
  have hv : ldV L ((4 + N : Nat) : Int) = L.getD (4 + N) 0 := ldV_gd (by omega)
  have K := (entryLn_keeps (c := cEk N la) (a := a) h.wr hq).fin
  have e1 : entryLn (cEk N la) a L p = enFind (cEk N la) L p := by unfold entryLn; simp [hl]
  cases d with
  | false =>
    have he := h.live rfl
    have hb : enB (1048609 : Int) 1 = true := by decide
    have er : (entryLn (cEk N la) a L p).fin = ⟨acc L 1 ((4 + N : Nat) : Int) 0 0, L, { p with v := 1048609, c := 1048609 / 16 % 65536, ln := 0 }, 1, true⟩ := by
      rw [e1]
      unfold enFind
      rw [hk, hv, he, h1, if_pos hb]
      simp [Res.fin]
    rw [er] at K ⊢
    refine ⟨false, { p with v := 1048609, c := 1048609 / 16 % 65536, ln := 43 }, h.same hw _ ⟨K.pr.ep, K.pr.h, K.pr.n, K.pr.v, K.pr.u, K.pr.g, K.pr.t⟩ (.inr (.inr (.inl ⟨rfl, ht, rfl⟩))), rfl, .inr (.inr (.inl ⟨rfl, hl, rfl, rfl, rfl⟩))⟩
  | true =>
    have he := h.dead rfl
    have er : (entryLn (cEk N la) a L p).fin = ⟨acc L 1 ((4 + N : Nat) : Int) 0 0, L, { p with ln := 0 }, 2, true⟩ := by
      rw [e1]
      unfold enFind
      rw [hk, hv, h1, if_neg (by rw [he]; decide)]
      simp [Res.fin]
    rw [er] at K ⊢
    exact ⟨true, pz, h.same hw _ pr_z (.inl rfl), rfl, .inr (.inl ⟨rfl, rfl, rfl, .inl hl⟩)⟩
theorem ek43 (hN : 2 ≤ N ∧ N ≤ 6) (hla : 1 ≤ la ∧ la ≤ 3) (h : EkI N d L P) (hw : w < N) (hp : ekp P w = p) (hl : p.ln = 43) : EkO N d P w p (entryLn (cEk N la) a L p).fin := by
  have hlen := h.len
  have hs := h.st w hw
  have hq := h.pr w hw
  rw [hp] at hs hq
  have htv : p.t = 65537 ∧ p.v = 1048609 := by
    rcases hs with hs | hs | hs | ⟨_, _, hs⟩ <;> omega
  obtain ⟨ht, hv⟩ := htv
  have hk : enT (cEk N la) p = ((4 + N : Nat) : Int) := by
    unfold enT
    rw [ht, show (65537 : Int) % 65536 - 1 = 0 by decide]
    exact cEk_ent hN hla
  have h1 : p.t / 65536 = 1 := by omega
  have h2 : p.t % 65536 = 1 := by omega
  have K := (entryLn_keeps (c := cEk N la) (a := a) h.wr hq).fin
  have e1 : entryLn (cEk N la) a L p = en43 (cEk N la) L p := by unfold entryLn; simp [hl]
  have hcg : csB L ((4 + N : Nat) : Int) p.v = decide (L.getD (4 + N) 0 = 1048609) := by rw [csB_gd (by omega), hv]
  cases d with
  | false =>
    have he := h.live rfl
    have hc : csB L ((4 + N : Nat) : Int) p.v = true := by rw [hcg, he]; rfl
    have er : (entryLn (cEk N la) a L p).fin = ⟨acc L 3 ((4 + N : Nat) : Int) p.v (enNext (cEk N la) p), L.set (4 + N) (enNext (cEk N la) p), { p with i := enHand (cEk N la) p, ln := 0 }, 1, true⟩ := by
      rw [e1]
      unfold en43
      rw [hk, if_pos hc, csL_yes hc, Int.toNat_natCast]
      rfl
    rw [er] at K ⊢
    have g2 : ((L.set (4 + N) (enNext (cEk N la) p)).getD 2 0) = L.getD 2 0 := by rw [ekset, if_neg (by omega)]
    have g4 : ((L.set (4 + N) (enNext (cEk N la) p)).getD (4 + N) 0) = enNext (cEk N la) p := by rw [ekset, if_pos ⟨rfl, by omega⟩]
    have g5 : ((L.set (4 + N) (enNext (cEk N la) p)).getD (5 + N) 0) = L.getD (5 + N) 0 := by rw [ekset, if_neg (by omega)]
    have f3 : ∀ x, EkS false (L.getD (4 + N) 0) x → EkS true (enNext (cEk N la) p) x := by
      intro x hx
      rcases hx with hx | hx | hx | ⟨q, _, hx⟩
      · exact .inl hx
      · exact .inr (.inl hx)
      · exact .inr (.inr (.inl hx))
      · cases q
    by_cases hz : la ≤ 1
    · have en : enNext (cEk N la) p = Pk.en 1 (-1) 2 := by unfold enNext; rw [h1, if_pos hz]
      have eh : enHand (cEk N la) p = 0 := by unfold enHand; rw [h1, if_pos hz]
      rw [en] at g2 g4 g5 f3
      rw [en, eh] at K ⊢
      refine ⟨true, _, h.upd hw _ (by simp) K.wr (by rw [g2]; exact h.hd) (by rw [g5]; exact h.lk) (fun q => by cases q) (fun _ => by rw [g4]; decide) K.pr (.inl rfl) (by rw [g4]; exact f3), rfl, ?_⟩
      exact .inr (.inr (.inr (.inr (.inl ⟨rfl, hl, rfl, rfl, show ¬ (0 : Int) < 0 by decide, rfl⟩))))
    · have en : enNext (cEk N la) p = Pk.en 2 (-1) 0 := by unfold enNext; rw [h1, if_neg hz]; rfl
      have eh : enHand (cEk N la) p = 1 := by unfold enHand; rw [h1, if_neg hz, h2]
      rw [en] at g2 g4 g5 f3
      rw [en, eh] at K ⊢
      refine ⟨true, { p with i := 1, ln := 23 }, h.upd hw _ (by simp) K.wr (by rw [g2]; exact h.hd) (by rw [g5]; exact h.lk) (fun q => by cases q) (fun _ => by rw [g4]; decide) ⟨K.pr.ep, K.pr.h, K.pr.n, K.pr.v, K.pr.u, K.pr.g, K.pr.t⟩ (.inr (.inr (.inr ⟨rfl, by rw [g4]; decide, ?_⟩))) (by rw [g4]; exact f3), rfl, ?_⟩
      · exact .inr (.inr (.inr (.inr (.inr (.inl ⟨rfl, rfl⟩)))))
      · exact .inr (.inr (.inr (.inl ⟨rfl, hl, rfl, rfl, show (0 : Int) < 1 by decide, rfl⟩)))
  | true =>
    have he := h.dead rfl
    have hne : L.getD (4 + N) 0 ≠ 1048609 := fun q => by rw [q] at he; revert he; decide
    have hc : csB L ((4 + N : Nat) : Int) p.v = false := by rw [hcg]; simpa using hne
    have er : (entryLn (cEk N la) a L p).fin = ⟨acc L 3 ((4 + N : Nat) : Int) p.v (enNext (cEk N la) p), L, { p with ln := 42 }, 0, true⟩ := by
      rw [e1]
      unfold en43
      rw [hk, if_neg (by rw [hc]; decide), csL_no hc]
      simp [Res.fin]
    rw [er] at K ⊢
    exact ⟨true, _, h.same hw _ K.pr (.inr (.inl ⟨rfl, ht⟩)), rfl, .inl ⟨rfl, rfl, rfl, by omega, by omega⟩⟩
/-- Every pick of a worker that is not done. -/
theorem ek_pick (hN : 2 ≤ N ∧ N ≤ 6) (hla : 1 ≤ la ∧ la ≤ 3) (h : EkI N d L P) (hw : w < N) (hp : ekp P w = p) (hl : p.ln ≠ 0) : EkO N d P w p (entryLn (cEk N la) a L p).fin := by
  have hs := h.st w hw
  rw [hp] at hs
  rcases (show p.ln = 42 ∨ p.ln = 43 ∨ p.ln = 20 ∨ p.ln = 21 ∨ p.ln = 22 ∨ p.ln = 40 ∨ p.ln = 41 ∨ p.ln = 23 ∨ p.ln = 24 ∨ p.ln = 25 by rcases hs with hs | hs | hs | ⟨_, _, hs⟩ <;> omega) with q | q | q | q | q | q | q | q | q | q
  · exact ek42 hN hla h hw hp q
  · exact ek43 hN hla h hw hp q
  · exact ek20 h hw hp q
  · exact ek21 hN hla h hw hp q
  · exact ek22 hN hla h hw hp q
  · exact ek40 hN hla h hw hp q
  · exact ek41 hN hla h hw hp q
  · exact ek23 h hw hp q
  · exact ek24 hN hla h hw hp q
  · exact ek25 h hw hp q
/-- Whether the ticket is live. -/
theorem ek_live (hN : 2 ≤ N ∧ N ≤ 6) (hla : 1 ≤ la ∧ la ≤ 3) (h : EkI N d L P) : lvB (cEk N la) L 65537 = !d := by
  rw [lv_good (cEk_chk hN hla) (by rw [cEk_siz hN hla, h.len]; omega) (cEk_good hN hla)]
  have e : lvW (cEk N la) L 65537 = L.getD (4 + N) 0 := by
    unfold lvW
    rw [show (65537 : Int) % 65536 - 1 = 0 by decide, cEk_ent hN hla]
    rfl
  rw [e]
  cases d with
  | false => rw [h.live rfl]; decide
  | true => exact h.dead rfl
/-- The five steps ahead. -/
def ekP0 : Pl := { pz with ln := 20, b := 2 }
def ekR (c : Cfg) : Nat → Res
  | 0 => ⟨a0, firstL c, ekP0, 0, true⟩
  | k + 1 => (entryLn c (ekR c k).a (ekR c k).L (ekR c k).p).fin
def ekOk (N : Nat) (la : Int) : Bool :=
  let c := cEk N la
  decide ((firstL c).length = 14 + N) && (firstL c).all (fun x => decide (0 ≤ x ∧ x < 18446744073709551616)) && decide ((ekR c 0).way = 0 ∧ (ekR c 1).way = 0 ∧ (ekR c 2).way = 0 ∧ (ekR c 3).way = 0 ∧ (ekR c 4).way = 0 ∧ (ekR c 5).way = 1 ∧ (ekR c 5).p.t = 65537)
  && decide (low32 ((ekR c 5).L.getD 2 0) = 0 ∧ (ekR c 5).L.getD (5 + N) 0 = 0 ∧ (ekR c 5).L.getD (4 + N) 0 = 1048609)
theorem ek_all : ∀ (n : Fin 5) (m : Fin 3), ekOk (n.val + 2) ((m.val + 1 : Nat) : Int) = true := by decide +kernel
theorem ek_ok (hN : 2 ≤ N ∧ N ≤ 6) (hla : 1 ≤ la ∧ la ≤ 3) : ekOk N la = true := by
  have := ek_all ⟨N - 2, by omega⟩ ⟨la.toNat - 1, by omega⟩
  simp only at this
  rwa [show N - 2 + 2 = N by omega, show ((la.toNat - 1 + 1 : Nat) : Int) = la by omega] at this
theorem ekR_keeps (hN : 2 ≤ N ∧ N ≤ 6) (hla : 1 ≤ la ∧ la ≤ 3) : ∀ k, (ekR (cEk N la) k).L.length = 14 + N ∧ WR (ekR (cEk N la) k).L ∧ PR (ekR (cEk N la) k).p
  | 0 => by
    have h := ek_ok hN hla
    unfold ekOk at h
    simp only [Bool.and_eq_true, decide_eq_true_eq, List.all_eq_true] at h
    exact ⟨h.1.1.1, h.1.1.2, show PR ekP0 by constructor <;> decide⟩
  | k + 1 => by
    obtain ⟨h1, h2, h3⟩ := ekR_keeps hN hla k
    have K := (entryLn_keeps (c := cEk N la) (a := (ekR (cEk N la) k).a) h2 h3).fin
    exact ⟨K.len.trans h1, K.wr, K.pr⟩
theorem ekR_way (hN : 2 ≤ N ∧ N ≤ 6) (hla : 1 ≤ la ∧ la ≤ 3) {k : Nat} (hk : k < 5) : (ekR (cEk N la) k).way = 0 := by
  have h := ek_ok hN hla
  unfold ekOk at h
  simp only [Bool.and_eq_true, decide_eq_true_eq, List.all_eq_true] at h
  rcases (show k = 0 ∨ k = 1 ∨ k = 2 ∨ k = 3 ∨ k = 4 by omega) with rfl | rfl | rfl | rfl | rfl
  · exact h.1.2.1
  · exact h.1.2.2.1
  · exact h.1.2.2.2.1
  · exact h.1.2.2.2.2.1
  · exact h.1.2.2.2.2.2.1
theorem ekR_end (hN : 2 ≤ N ∧ N ≤ 6) (hla : 1 ≤ la ∧ la ≤ 3) : (ekR (cEk N la) 5).way = 1 ∧ (ekR (cEk N la) 5).p.t = 65537 ∧ EkI N false (ekR (cEk N la) 5).L (List.replicate N { pz with ln := 42, t := 65537 }) := by
  have h := ek_ok hN hla
  obtain ⟨k1, k2, k3⟩ := ekR_keeps hN hla 5
  unfold ekOk at h
  simp only [Bool.and_eq_true, decide_eq_true_eq, List.all_eq_true] at h
  have gp : ∀ k, k < N → ekp (List.replicate N ({ pz with ln := 42, t := 65537 } : Pl)) k = { pz with ln := 42, t := 65537 } := fun k hk => by
    unfold ekp
    rw [List.getD_eq_getElem?_getD, List.getElem?_replicate, if_pos hk]
    rfl
  refine ⟨h.1.2.2.2.2.2.2.1, h.1.2.2.2.2.2.2.2, k1, k2, by simp, .inl h.2.1, .inl h.2.2.1, fun _ => h.2.2.2, (fun q => by cases q), ?_, ?_⟩
  · intro k hk
    rw [gp k hk]
    constructor <;> decide
  · intro k hk
    rw [gp k hk]
    exact .inr (.inl ⟨rfl, rfl⟩)
end
end Go.Proofs.Ytblkfbbdeodpjaa.Me
