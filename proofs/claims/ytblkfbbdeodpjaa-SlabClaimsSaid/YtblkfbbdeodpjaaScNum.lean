/- SlabClaims: what a pick does to the words, to the workers' states and to the lists that the law keeps (made by gensc.py). -/
import Derived.Test.YtblkfbbdeodpjaaSlabFn
import Derived.Test.YtblkfbbdeodpjaaFirsts
namespace Go.Proofs.Ytblkfbbdeodpjaa.Me
open Go Go.RowKit Go.Proofs.Ytblkfbbdeodpjaa.Gro Go.Proofs.Ytblkfbbdeodpjaa.Own Go.Proofs.Ytblkfbbdeodpjaa.Wd Go.Proofs.Ytblkfbbdeodpjaa.Ap Go.Proofs.Ytblkfbbdeodpjaa.Pl Go.Proofs.Ytblkfbbdeodpjaa.Wo
set_option linter.unusedVariables false
set_option linter.unusedSimpArgs false
theorem scset {α : Type} (l : List α) (w k : Nat) (x d : α) : (l.set w x).getD k d = if k = w ∧ w < l.length then x else l.getD k d := by
  rw [List.getD_eq_getElem?_getD, List.getElem?_set, List.getD_eq_getElem?_getD]
  by_cases h : w = k
  · subst h
    by_cases h2 : w < l.length
    · simp [h2]
    · rw [if_pos rfl, if_neg h2, if_neg (by omega), List.getElem?_eq_none (by omega)]
  · rw [if_neg h, if_neg (by omega)]
theorem sc_ld {L : List Int} {i : Nat} (hi : i < L.length) : ldV L (i : Int) = L.getD i 0 := by
  unfold ldV
  rw [if_pos ⟨by omega, by omega⟩]
  simp
theorem sc_cs {L : List Int} {i : Nat} (hi : i < L.length) (x : Int) : csB L (i : Int) x = decide (L.getD i 0 = x) := by
  unfold csB
  rw [decide_eq_true (show 0 ≤ (i : Int) ∧ (i : Int) < (L.length : Int) from ⟨by omega, by omega⟩)]
  simp
theorem sc_ad {L : List Int} {i : Nat} (hi : i < L.length) (x : Int) : adL L (i : Int) x = L.set i (IntKind.u64.wrap (L.getD i 0 + x)) := by
  unfold adL
  rw [if_pos ⟨by omega, by omega⟩]
  simp
def scP (P : List Pl) (k : Nat) : Pl := P.getD k pz
abbrev cSc (N M B : Nat) : Cfg := ⟨N, M, B, 1, 1, 0, 1, 1⟩
structure ScD (N M B : Nat) : Prop where
  n : 1 ≤ N ∧ N ≤ 8
  m : 1 ≤ M ∧ M ≤ 3
  b : 1 ≤ B ∧ B ≤ 4
section
variable {N M B : Nat} (h : ScD N M B)
include h
theorem cSc_chk : chk (cSc N M B) = 0 := by
  have h1 := h.n
  have h2 := h.m
  have h3 := h.b
  exact chk_ok.2 ⟨by simp only; omega, by simp only; omega, by simp only; omega, by simp only; omega, by simp only; omega, by simp only; omega, by simp only; omega, by simp only; omega⟩
theorem cSc_wf : (cSc N M B).Wf := by
  have h1 := h.n
  constructor <;> simp only [] <;> decide
theorem cSc_slab {j : Nat} (hj : j < M) : aSlab (cSc N M B) (j : Int) = ((3 + N + j : Nat) : Int) := by
  have hb : hasB (cSc N M B) (j : Int) (cSc N M B).sl = true := by
    unfold hasB
    rw [okB_of_ok (chk_ok.1 (cSc_chk h))]
    simp
    omega
  rw [aSlab, if_pos hb]
  simp only
  omega
theorem cSc_siz : siz (cSc N M B) = 5 + (N : Int) + M + M * B * 2 := by
  rw [siz, if_pos (okB_of_ok (chk_ok.1 (cSc_chk h)))]
  simp only
  omega
/-- The slab of a block of slab j. -/
theorem cSc_home {j f : Nat} (hj : j < M) (hf : 1 ≤ f ∧ f ≤ B) : slHome (cSc N M B) ((j : Int) * B + f) = ((3 + N + j : Nat) : Int) := by
  have hm := h.m
  have hb := h.b
  have hok := okB_of_ok (chk_ok.1 (cSc_chk h))
  have ht : tot (cSc N M B) = (M : Int) * B := (tot_ok hok).1
  have hq : 0 ≤ (j : Int) * B ∧ (j : Int) * B + B ≤ (M : Int) * B ∧ (M : Int) * B ≤ 12 := by
    rcases (show B = 1 ∨ B = 2 ∨ B = 3 ∨ B = 4 by omega) with rfl | rfl | rfl | rfl <;> omega
  have hw : wrap64 ((j : Int) * B + f - 1) = (j : Int) * B + f - 1 := by unfold wrap64; omega
  have hh : hasB (cSc N M B) ((j : Int) * B + f - 1) (tot (cSc N M B)) = true := by
    unfold hasB
    rw [hok, ht]
    simp
    omega
  have hd : ((j : Int) * B + f - 1) / B = j := by
    rcases (show B = 1 ∨ B = 2 ∨ B = 3 ∨ B = 4 by omega) with rfl | rfl | rfl | rfl <;> omega
  unfold slHome
  rw [hw, aHom, if_pos hh]
  show aSlab (cSc N M B) (((j : Int) * B + f - 1) / B) = _
  rw [hd]
  exact cSc_slab h hj
end
def ScS (N M B w : Nat) (L : List Int) (F H : List Nat) (p : Pl) : Prop :=
  (p.ln = 33 ∧ 0 ≤ p.j ∧ p.j < M ∧ 2 ≤ p.ep ∧ p.ep ≤ L.getD 0 0)
  ∨ (p.ln = 34 ∧ 0 ≤ p.j ∧ p.j < M ∧ 2 ≤ p.ep ∧ p.ep ≤ L.getD 0 0 ∧ rdyB p.v p.ep = true)
  ∨ ∃ j : Nat, j < M ∧ p.o3 = (j : Int) ∧ H.getD j 0 = w + 1 ∧
    ((p.ln = 36 ∧ F.getD w 0 = B ∧ L.getD (3 + N + j) 0 = 1) ∨ (p.ln = 37 ∧ F.getD w 0 = B ∧ L.getD (3 + N + j) 0 = 1 ∧ p.v = 1)
    ∨ (p.ln = 30 ∧ 1 ≤ F.getD w 0 ∧ F.getD w 0 ≤ B ∧ p.k = (j : Int) * B + (F.getD w 0 : Nat) ∧ L.getD (3 + N + j) 0 = 2 + 16 * ((B : Int) - (F.getD w 0 : Nat)))
    ∨ (p.ln = 31 ∧ F.getD w 0 = 1 ∧ p.k = (j : Int) * B + (1 : Nat) ∧ L.getD (3 + N + j) 0 = 2 + 16 * (B : Int))
    ∨ (p.ln = 32 ∧ F.getD w 0 = 1 ∧ p.k = (j : Int) * B + (1 : Nat) ∧ L.getD (3 + N + j) 0 = 2 + 16 * (B : Int) ∧ 2 ≤ p.v ∧ p.v ≤ L.getD 0 0))
theorem ScS.mono {N M B w : Nat} {L L' : List Int} {F F' H H' : List Nat} {p : Pl} (h : ScS N M B w L F H p) (h0 : L.getD 0 0 ≤ L'.getD 0 0)
    (h1 : ∀ j, j < M → H.getD j 0 = w + 1 → L'.getD (3 + N + j) 0 = L.getD (3 + N + j) 0 ∧ H'.getD j 0 = w + 1) (h2 : F'.getD w 0 = F.getD w 0) : ScS N M B w L' F' H' p := by
  rcases h with ⟨a1, a2, a3, a4, a5⟩ | ⟨a1, a2, a3, a4, a5, a6⟩ | ⟨j, hj, a1, a2, a3⟩
  · exact .inl ⟨a1, a2, a3, a4, by omega⟩
  · exact .inr (.inl ⟨a1, a2, a3, a4, by omega, a6⟩)
  · obtain ⟨k1, k2⟩ := h1 j hj a2
    refine .inr (.inr ⟨j, hj, a1, k2, ?_⟩)
    rw [h2, k1]
    rcases a3 with a3 | a3 | a3 | a3 | ⟨b1, b2, b3, b4, b5, b6⟩
    · exact .inl a3
    · exact .inr (.inl a3)
    · exact .inr (.inr (.inl a3))
    · exact .inr (.inr (.inr (.inl a3)))
    · exact .inr (.inr (.inr (.inr ⟨b1, b2, b3, b4, b5, by omega⟩)))
/-- A slab's word, owner and time. -/
def ScJ (g V : Int) (o : Nat) (t : Int) : Prop := (o ≠ 0 → V % 16 = 1 ∨ V % 16 = 2) ∧ (o = 0 → (V = 0 ∧ t = 0) ∨ (V = 3 + 65536 * t ∧ 2 ≤ t)) ∧ 0 ≤ t ∧ t ≤ g
structure ScI (N M B G : Nat) (L : List Int) (P : List Pl) (F H : List Nat) (T : List Int) : Prop where
  len : (L.length : Int) = siz (cSc N M B)
  wr : WR L
  nP : P.length = N
  nF : F.length = N
  nH : H.length = M
  nT : T.length = M
  g : 2 ≤ L.getD 0 0 ∧ L.getD 0 0 ≤ 2 + G
  pr : ∀ k, k < N → PR (scP P k)
  st : ∀ k, k < N → ScS N M B k L F H (scP P k)
  sl : ∀ j, j < M → ScJ (L.getD 0 0) (L.getD (3 + N + j) 0) (H.getD j 0) (T.getD j 0)
theorem ScI.size {N M B G : Nat} {L : List Int} {P : List Pl} {F H : List Nat} {T : List Int} (h : ScI N M B G L P F H T) (hd : ScD N M B) : 5 + N + M ≤ L.length ∧ L.length ≤ 100 := by
  have h1 := h.len
  rw [cSc_siz hd] at h1
  have hm := hd.m
  have hb := hd.b
  have hn := hd.n
  rcases (show B = 1 ∨ B = 2 ∨ B = 3 ∨ B = 4 by omega) with rfl | rfl | rfl | rfl <;> omega
theorem scP_set {P : List Pl} {w : Nat} (hw : w < P.length) (q : Pl) (j : Nat) : scP (P.set w q) j = if j = w then q else scP P j := by
  unfold scP
  rw [scset]
  by_cases hk : j = w
  · rw [if_pos ⟨hk, hw⟩, if_pos hk]
  · rw [if_neg (by omega), if_neg hk]
theorem ScI.upd {N M B G w : Nat} {L L' : List Int} {P : List Pl} {F F' H H' : List Nat} {T T' : List Int} (h : ScI N M B G L P F H T) (hw : w < N) (q : Pl) (e1 : L'.length = L.length) (e2 : WR L') (e3 : F'.length = N) (e4 : H'.length = M) (e5 : T'.length = M) (e6 : L'.getD 0 0 = L.getD 0 0)
    (f1 : PR q) (f2 : ScS N M B w L' F' H' q) (f3 : ∀ v, v ≠ w → F'.getD v 0 = F.getD v 0 ∧ ∀ j, j < M → H.getD j 0 = v + 1 → L'.getD (3 + N + j) 0 = L.getD (3 + N + j) 0 ∧ H'.getD j 0 = v + 1)
    (f4 : ∀ j, j < M → ScJ (L.getD 0 0) (L'.getD (3 + N + j) 0) (H'.getD j 0) (T'.getD j 0)) : ScI N M B G L' (P.set w q) F' H' T' := by
  have hP := h.nP
  refine ⟨by rw [e1]; exact h.len, e2, by rw [List.length_set]; exact hP, e3, e4, e5, by rw [e6]; exact h.g, ?_, ?_, by rw [e6]; exact f4⟩
  · intro k hk
    rw [scP_set (by omega)]
    split
    · exact f1
    · exact h.pr k hk
  · intro k hk
    rw [scP_set (by omega)]
    split
    · rename_i e
      subst e
      exact f2
    · rename_i hne
      exact (h.st k hk).mono (by rw [e6]; exact Int.le_refl _) (f3 k hne).2 (f3 k hne).1
/-- Nothing is written but the state. -/
theorem ScI.same {N M B G w : Nat} {L : List Int} {P : List Pl} {F H : List Nat} {T : List Int} (h : ScI N M B G L P F H T) (hw : w < N) (q : Pl) (f1 : PR q) (f2 : ScS N M B w L F H q) : ScI N M B G L (P.set w q) F H T :=
  h.upd hw q rfl h.wr h.nF h.nH h.nT rfl f1 f2 (fun _ _ => ⟨rfl, fun _ _ e => ⟨rfl, e⟩⟩) h.sl
/-- The epoch rises. -/
theorem ScI.bump {N M B G : Nat} {L : List Int} {P : List Pl} {F H : List Nat} {T : List Int} (h : ScI N M B G L P F H T) (hd : ScD N M B) (hG : G ≤ 900) : ScI N M B (G + 1) (L.set 0 (L.getD 0 0 + 1)) P F H T := by
  have hs := h.size hd
  have hg := h.g
  have g0 : (L.set 0 (L.getD 0 0 + 1)).getD 0 0 = L.getD 0 0 + 1 := by rw [scset, if_pos ⟨rfl, by omega⟩]
  have gj : ∀ j, (L.set 0 (L.getD 0 0 + 1)).getD (3 + N + j) 0 = L.getD (3 + N + j) 0 := fun j => by rw [scset, if_neg (by omega)]
  refine ⟨by rw [List.length_set]; exact h.len, wr_set h.wr _ (by omega) (by omega), h.nP, h.nF, h.nH, h.nT, by rw [g0]; omega, h.pr, fun k hk => (h.st k hk).mono (by rw [g0]; omega) (fun j _ e => ⟨gj j, e⟩) rfl, fun j hj => ?_⟩
  rw [g0, gj]
  obtain ⟨h1, h2, h3, h4⟩ := h.sl j hj
  exact ⟨h1, h2, h3, by omega⟩
theorem ScI.weak {N M B G : Nat} {L : List Int} {P : List Pl} {F H : List Nat} {T : List Int} (h : ScI N M B G L P F H T) : ScI N M B (G + 1) L P F H T :=
  ⟨h.len, h.wr, h.nP, h.nF, h.nH, h.nT, by have := h.g; omega, h.pr, h.st, h.sl⟩
/-- How a pick ends. -/
def ScO (N M B G : Nat) (L : List Int) (P : List Pl) (F H : List Nat) (T : List Int) (w : Nat) (p : Pl) (r : Res) : Prop :=
  r.ok = true ∧ r.L.getD 0 0 = L.getD 0 0 ∧
    ((r.way = 0 ∧ ScI N M B G r.L (P.set w r.p) F H T)
    ∨ (r.way = 2 ∧ p.ln = 33 ∧ ScI N M B G r.L (P.set w { r.p with ln := 33, j := 0, ep := L.getD 0 0 }) F H T)
    ∨ (r.way = 1 ∧ p.ln = 34 ∧ ∃ j : Nat, j < M ∧ r.p.j = (j : Int) ∧ H.getD j 0 = 0 ∧ (T.getD j 0 = 0 ∨ T.getD j 0 + 2 ≤ r.p.ep) ∧ ScI N M B G r.L (P.set w { r.p with ln := 36, o3 := (j : Int) }) (F.set w B) (H.set j (w + 1)) T)
    ∨ (r.way = 1 ∧ p.ln = 37 ∧ ∃ j : Nat, j < M ∧ p.o3 = (j : Int) ∧ F.getD w 0 = B ∧ ScI N M B G r.L (P.set w { r.p with ln := 30, k := (j : Int) * B + (B : Nat) }) F H T)
    ∨ (r.way = 1 ∧ p.ln = 30 ∧ ∃ j f : Nat, j < M ∧ p.o3 = (j : Int) ∧ F.getD w 0 = f + 1 ∧ 1 ≤ f ∧ f ≤ B ∧ ScI N M B G r.L (P.set w { r.p with ln := 30, k := (j : Int) * B + (f : Nat) }) (F.set w f) H T)
    ∨ (r.way = 1 ∧ p.ln = 32 ∧ ∃ j : Nat, j < M ∧ p.o3 = (j : Int) ∧ F.getD w 0 = 1 ∧ H.getD j 0 = w + 1 ∧ r.L.getD (3 + N + j) 0 % 16 = 3 ∧ ScI N M B G r.L (P.set w { r.p with ln := 33, j := 0, ep := L.getD 0 0 }) (F.set w 0) (H.set j 0) (T.set j p.v)))
section
variable {N M B G w : Nat} {a : Acc} {L : List Int} {P : List Pl} {F H : List Nat} {T : List Int} {p : Pl}
/-- Where the words of one slab change, which is this worker's. -/
theorem sc_one (h : ScI N M B G L P F H T) (hw : w < N) {j : Nat} (hj : j < M) (ho : H.getD j 0 = w + 1 ∨ H.getD j 0 = 0) (q : Pl) (V : Int) {F' H' : List Nat} {T' : List Int} {f o : Nat} {t : Int} (hF : F' = F ∨ F' = F.set w f) (hH : H' = H ∨ H' = H.set j o) (hT : T' = T ∨ T' = T.set j t)
    (hL : 3 + N + j < L.length) (e2 : WR (L.set (3 + N + j) V)) (f1 : PR q) (f2 : ScS N M B w (L.set (3 + N + j) V) F' H' q) (f4 : ScJ (L.getD 0 0) V (H'.getD j 0) (T'.getD j 0)) : ScI N M B G (L.set (3 + N + j) V) (P.set w q) F' H' T' := by
  have hF1 : F'.length = N ∧ ∀ v, v ≠ w → F'.getD v 0 = F.getD v 0 := by
    rcases hF with rfl | rfl
    · exact ⟨h.nF, fun _ _ => rfl⟩
    · exact ⟨by rw [List.length_set]; exact h.nF, fun v hv => by rw [scset, if_neg (by omega)]⟩
  have hH1 : H'.length = M ∧ ∀ i, i ≠ j → H'.getD i 0 = H.getD i 0 := by
    rcases hH with rfl | rfl
    · exact ⟨h.nH, fun _ _ => rfl⟩
    · exact ⟨by rw [List.length_set]; exact h.nH, fun v hv => by rw [scset, if_neg (by omega)]⟩
  have hT1 : T'.length = M ∧ ∀ i, i ≠ j → T'.getD i 0 = T.getD i 0 := by
    rcases hT with rfl | rfl
    · exact ⟨h.nT, fun _ _ => rfl⟩
    · exact ⟨by rw [List.length_set]; exact h.nT, fun v hv => by rw [scset, if_neg (by omega)]⟩
  have gj : ∀ i, i ≠ j → (L.set (3 + N + j) V).getD (3 + N + i) 0 = L.getD (3 + N + i) 0 := fun i hi => by rw [scset, if_neg (by omega)]
  refine h.upd hw q (by simp) e2 hF1.1 hH1.1 hT1.1 (by rw [scset, if_neg (by omega)]) f1 f2 (fun v hv => ⟨hF1.2 v hv, fun i hi hiv => ?_⟩) (fun i hi => ?_)
  · have hne : i ≠ j := by
      rintro rfl
      omega
    exact ⟨gj i hne, by rw [hH1.2 i hne]; exact hiv⟩
  · by_cases e : i = j
    · subst e
      rw [scset, if_pos ⟨rfl, hL⟩]
      exact f4
    · rw [gj i e, hH1.2 i e, hT1.2 i e]
      exact h.sl i hi
theorem sc33 (hd : ScD N M B) (h : ScI N M B G L P F H T) (hw : w < N) (hp : scP P w = p) (hl : p.ln = 33) : ScO N M B G L P F H T w p (slabLn (cSc N M B) a L p).fin := by
  have hz := h.size hd
  have hm := hd.m
  have hs := h.st w hw
  have hq := h.pr w hw
  rw [hp] at hs hq
  obtain ⟨h1, h2, h3, h4⟩ : 0 ≤ p.j ∧ p.j < M ∧ 2 ≤ p.ep ∧ p.ep ≤ L.getD 0 0 := by
    rcases hs with ⟨_, h⟩ | ⟨q, _⟩ | ⟨j, _, _, _, q⟩
    · exact h
    · omega
    · omega
  obtain ⟨j, hj⟩ : ∃ j : Nat, p.j = (j : Int) := ⟨p.j.toNat, by omega⟩
  have hjM : j < M := by omega
  have ha : aSlab (cSc N M B) p.j = ((3 + N + j : Nat) : Int) := by rw [hj]; exact cSc_slab hd hjM
  have hv : ldV L ((3 + N + j : Nat) : Int) = L.getD (3 + N + j) 0 := sc_ld (by omega)
  have hwj : wrap64 (p.j + 1) = p.j + 1 := by unfold wrap64; omega
  have K := (slabLn_keeps (c := cSc N M B) (a := a) h.wr hq).fin
  have e1 : slabLn (cSc N M B) a L p = sl33 (cSc N M B) L p := by unfold slabLn; simp [hl]
  obtain ⟨V, hV⟩ : ∃ V, V = L.getD (3 + N + j) 0 := ⟨_, rfl⟩
  rw [← hV] at hv
  by_cases hr : rdyB V p.ep = true
  · have er : (slabLn (cSc N M B) a L p).fin = ⟨acc L 1 ((3 + N + j : Nat) : Int) 0 0, L, { p with v := V, ln := 34 }, 0, true⟩ := by
      rw [e1]
      unfold sl33
      rw [ha, hv, if_pos hr]
      rfl
    rw [er] at K ⊢
    exact ⟨rfl, rfl, .inl ⟨rfl, h.same hw _ K.pr (.inr (.inl ⟨rfl, h1, h2, h3, h4, hr⟩))⟩⟩
  · by_cases hlast : (M : Int) ≤ p.j + 1
    · have er : (slabLn (cSc N M B) a L p).fin = ⟨acc L 1 ((3 + N + j : Nat) : Int) 0 0, L, { p with v := V, j := p.j + 1, ln := 0 }, 2, true⟩ := by
        rw [e1]
        unfold sl33
        rw [ha, hv, if_neg hr, hwj, if_pos hlast]
        rfl
      rw [er] at K ⊢
      have hg := h.g
      have hgw := ldV_wr h.wr (0 : Int)
      rw [show (0 : Int) = ((0 : Nat) : Int) from rfl, sc_ld (by omega)] at hgw
      exact ⟨rfl, rfl, .inr (.inl ⟨rfl, hl, h.same hw _ ⟨hgw, K.pr.h, K.pr.n, K.pr.v, K.pr.u, K.pr.g, K.pr.t⟩ (.inl ⟨rfl, Int.le_refl _, by show (0 : Int) < M; omega, hg.1, Int.le_refl _⟩)⟩)⟩
    · have er : (slabLn (cSc N M B) a L p).fin = ⟨acc L 1 ((3 + N + j : Nat) : Int) 0 0, L, { p with v := V, j := p.j + 1 }, 0, true⟩ := by
        rw [e1]
        unfold sl33
        rw [ha, hv, if_neg hr, hwj, if_neg hlast]
        rfl
      rw [er] at K ⊢
      exact ⟨rfl, rfl, .inl ⟨rfl, h.same hw _ K.pr (.inl ⟨hl, by show 0 ≤ p.j + 1; omega, by show p.j + 1 < M; omega, h3, h4⟩)⟩⟩
theorem sc34 (hd : ScD N M B) (h : ScI N M B G L P F H T) (hw : w < N) (hp : scP P w = p) (hl : p.ln = 34) : ScO N M B G L P F H T w p (slabLn (cSc N M B) a L p).fin := by
  have hz := h.size hd
  have hm := hd.m
  have hs := h.st w hw
  have hq := h.pr w hw
  rw [hp] at hs hq
  obtain ⟨h1, h2, h3, h4, h5⟩ : 0 ≤ p.j ∧ p.j < M ∧ 2 ≤ p.ep ∧ p.ep ≤ L.getD 0 0 ∧ rdyB p.v p.ep = true := by
    rcases hs with ⟨q, _⟩ | ⟨_, h⟩ | ⟨j, _, _, _, q⟩
    · omega
    · exact h
    · omega
  obtain ⟨j, hj⟩ : ∃ j : Nat, p.j = (j : Int) := ⟨p.j.toNat, by omega⟩
  have hjM : j < M := by omega
  have ha : aSlab (cSc N M B) p.j = ((3 + N + j : Nat) : Int) := by rw [hj]; exact cSc_slab hd hjM
  have K := (slabLn_keeps (c := cSc N M B) (a := a) h.wr hq).fin
  have e1 : slabLn (cSc N M B) a L p = slSwap (cSc N M B) L p p.j 1 33 := by unfold slabLn; simp [hl]
  have hcg : csB L ((3 + N + j : Nat) : Int) p.v = decide (L.getD (3 + N + j) 0 = p.v) := sc_cs (by omega) _
  have hsl := h.sl j hjM
  by_cases hc : L.getD (3 + N + j) 0 = p.v
  · have hcb : csB L ((3 + N + j : Nat) : Int) p.v = true := by rw [hcg]; simpa using hc
    have er : (slabLn (cSc N M B) a L p).fin = ⟨acc L 3 ((3 + N + j : Nat) : Int) p.v 1, L.set (3 + N + j) 1, { p with ln := 0 }, 1, true⟩ := by
      rw [e1]
      unfold slSwap
      rw [ha, if_pos hcb, csL_yes hcb, Int.toNat_natCast]
      rfl
    rw [er] at K ⊢
    rw [hc] at hsl
    obtain ⟨s1, s2, s3, s4⟩ := hsl
    have h5' := h5
    unfold rdyB rdy0 at h5'
    simp only [Bool.or_eq_true, Bool.and_eq_true, decide_eq_true_eq] at h5'
    have hH0 : H.getD j 0 = 0 := Classical.byContradiction fun q => by have := s1 q; omega
    have hT0 : T.getD j 0 = 0 ∨ T.getD j 0 + 2 ≤ p.ep := by
      rcases s2 hH0 with ⟨q1, q2⟩ | ⟨q1, q2⟩
      · exact .inl q2
      · right
        rw [q1] at h5'
        omega
    have hHl := h.nH
    have hFl := h.nF
    refine ⟨rfl, by show (L.set (3 + N + j) 1).getD 0 0 = _; rw [scset, if_neg (by omega)], .inr (.inr (.inl ⟨rfl, hl, j, hjM, hj, hH0, hT0, ?_⟩))⟩
    refine sc_one h hw hjM (.inr hH0) _ 1 (.inr rfl) (.inr rfl) (T' := T) (t := 0) (.inl rfl) (by omega) K.wr ⟨K.pr.ep, K.pr.h, K.pr.n, K.pr.v, K.pr.u, K.pr.g, K.pr.t⟩ ?_ ?_
    · refine .inr (.inr ⟨j, hjM, rfl, by rw [scset, if_pos ⟨rfl, by omega⟩], .inl ⟨rfl, by rw [scset, if_pos ⟨rfl, by omega⟩], by rw [scset, if_pos ⟨rfl, by omega⟩]⟩⟩)
    · rw [scset, if_pos ⟨rfl, by omega⟩]
      exact ⟨fun _ => .inl (by decide), fun q => by omega, s3, s4⟩
  · have hcb : csB L ((3 + N + j : Nat) : Int) p.v = false := by rw [hcg]; simpa using hc
    have er : (slabLn (cSc N M B) a L p).fin = ⟨acc L 3 ((3 + N + j : Nat) : Int) p.v 1, L, { p with ln := 33 }, 0, true⟩ := by
      rw [e1]
      unfold slSwap
      rw [ha, if_neg (by rw [hcb]; decide), csL_no hcb]
      rfl
    rw [er] at K ⊢
    exact ⟨rfl, rfl, .inl ⟨rfl, h.same hw _ K.pr (.inl ⟨rfl, h1, h2, h3, h4⟩)⟩⟩
/-- A worker that has a slab. -/
theorem ScS.own (h : ScS N M B w L F H p) (h1 : p.ln ≠ 33) (h2 : p.ln ≠ 34) : ∃ j : Nat, j < M ∧ p.o3 = (j : Int) ∧ H.getD j 0 = w + 1 ∧
    ((p.ln = 36 ∧ F.getD w 0 = B ∧ L.getD (3 + N + j) 0 = 1) ∨ (p.ln = 37 ∧ F.getD w 0 = B ∧ L.getD (3 + N + j) 0 = 1 ∧ p.v = 1)
    ∨ (p.ln = 30 ∧ 1 ≤ F.getD w 0 ∧ F.getD w 0 ≤ B ∧ p.k = (j : Int) * B + (F.getD w 0 : Nat) ∧ L.getD (3 + N + j) 0 = 2 + 16 * ((B : Int) - (F.getD w 0 : Nat)))
    ∨ (p.ln = 31 ∧ F.getD w 0 = 1 ∧ p.k = (j : Int) * B + (1 : Nat) ∧ L.getD (3 + N + j) 0 = 2 + 16 * (B : Int))
    ∨ (p.ln = 32 ∧ F.getD w 0 = 1 ∧ p.k = (j : Int) * B + (1 : Nat) ∧ L.getD (3 + N + j) 0 = 2 + 16 * (B : Int) ∧ 2 ≤ p.v ∧ p.v ≤ L.getD 0 0)) := by
  rcases h with ⟨q, _⟩ | ⟨q, _⟩ | h
  · exact absurd q h1
  · exact absurd q h2
  · exact h
theorem sc36 (hd : ScD N M B) (h : ScI N M B G L P F H T) (hw : w < N) (hp : scP P w = p) (hl : p.ln = 36) : ScO N M B G L P F H T w p (slabLn (cSc N M B) a L p).fin := by
  have hz := h.size hd
  have hs := h.st w hw
  have hq := h.pr w hw
  rw [hp] at hs hq
  obtain ⟨j, hj, ho, hH, hs⟩ := hs.own (by omega) (by omega)
  obtain ⟨h1, h2⟩ : F.getD w 0 = B ∧ L.getD (3 + N + j) 0 = 1 := by
    rcases hs with ⟨_, h⟩ | ⟨q, _⟩ | ⟨q, _⟩ | ⟨q, _⟩ | ⟨q, _⟩ <;> first | omega | exact h
  have ha : aSlab (cSc N M B) p.o3 = ((3 + N + j : Nat) : Int) := by rw [ho]; exact cSc_slab hd hj
  have hv : ldV L ((3 + N + j : Nat) : Int) = 1 := by rw [sc_ld (by omega), h2]
  have K := (slabLn_keeps (c := cSc N M B) (a := a) h.wr hq).fin
  have e1 : slabLn (cSc N M B) a L p = sl36 (cSc N M B) L p := by unfold slabLn; simp [hl]
  have er : (slabLn (cSc N M B) a L p).fin = ⟨acc L 1 ((3 + N + j : Nat) : Int) 0 0, L, { p with v := 1, ln := 37 }, 0, true⟩ := by
    rw [e1]
    unfold sl36
    rw [ha, hv, if_pos (by decide)]
    rfl
  rw [er] at K ⊢
  exact ⟨rfl, rfl, .inl ⟨rfl, h.same hw _ K.pr (.inr (.inr ⟨j, hj, ho, hH, .inr (.inl ⟨rfl, h1, h2, rfl⟩)⟩))⟩⟩
theorem sc37 (hd : ScD N M B) (h : ScI N M B G L P F H T) (hw : w < N) (hp : scP P w = p) (hl : p.ln = 37) : ScO N M B G L P F H T w p (slabLn (cSc N M B) a L p).fin := by
  have hz := h.size hd
  have hb := hd.b
  have hs := h.st w hw
  have hq := h.pr w hw
  rw [hp] at hs hq
  obtain ⟨j, hj, ho, hH, hs⟩ := hs.own (by omega) (by omega)
  obtain ⟨h1, h2, h3⟩ : F.getD w 0 = B ∧ L.getD (3 + N + j) 0 = 1 ∧ p.v = 1 := by
    rcases hs with ⟨q, _⟩ | ⟨_, h⟩ | ⟨q, _⟩ | ⟨q, _⟩ | ⟨q, _⟩ <;> first | omega | exact h
  have ha : aSlab (cSc N M B) p.o3 = ((3 + N + j : Nat) : Int) := by rw [ho]; exact cSc_slab hd hj
  have hcb : csB L ((3 + N + j : Nat) : Int) p.v = true := by rw [sc_cs (by omega), h2, h3]; rfl
  have K := (slabLn_keeps (c := cSc N M B) (a := a) h.wr hq).fin
  have e1 : slabLn (cSc N M B) a L p = slSwap (cSc N M B) L p p.o3 2 36 := by unfold slabLn; simp [hl]
  have er : (slabLn (cSc N M B) a L p).fin = ⟨acc L 3 ((3 + N + j : Nat) : Int) p.v 2, L.set (3 + N + j) 2, { p with ln := 0 }, 1, true⟩ := by
    rw [e1]
    unfold slSwap
    rw [ha, if_pos hcb, csL_yes hcb, Int.toNat_natCast]
    rfl
  rw [er] at K ⊢
  obtain ⟨s1, s2, s3, s4⟩ := h.sl j hj
  refine ⟨rfl, by show (L.set (3 + N + j) 2).getD 0 0 = _; rw [scset, if_neg (by omega)], .inr (.inr (.inr (.inl ⟨rfl, hl, j, hj, ho, h1, ?_⟩)))⟩
  refine sc_one h hw hj (.inl hH) _ 2 (F' := F) (f := 0) (.inl rfl) (H' := H) (o := 0) (.inl rfl) (T' := T) (t := 0) (.inl rfl) (by omega) K.wr ⟨K.pr.ep, K.pr.h, K.pr.n, K.pr.v, K.pr.u, K.pr.g, K.pr.t⟩ ?_ ?_
  · refine .inr (.inr ⟨j, hj, ho, hH, .inr (.inr (.inl ⟨rfl, by omega, by omega, by show (j : Int) * B + (B : Nat) = _; rw [h1], ?_⟩))⟩)
    rw [scset, if_pos ⟨rfl, by omega⟩, h1]
    omega
  · exact ⟨fun _ => .inr (by decide), fun q => by omega, s3, s4⟩
theorem sc30 (hd : ScD N M B) (h : ScI N M B G L P F H T) (hw : w < N) (hp : scP P w = p) (hl : p.ln = 30) : ScO N M B G L P F H T w p (slabLn (cSc N M B) a L p).fin := by
  have hz := h.size hd
  have hb := hd.b
  have hFl := h.nF
  have hs := h.st w hw
  have hq := h.pr w hw
  rw [hp] at hs hq
  obtain ⟨j, hj, ho, hH, hs⟩ := hs.own (by omega) (by omega)
  obtain ⟨h1, h2, h3, h4⟩ : 1 ≤ F.getD w 0 ∧ F.getD w 0 ≤ B ∧ p.k = (j : Int) * B + (F.getD w 0 : Nat) ∧ L.getD (3 + N + j) 0 = 2 + 16 * ((B : Int) - (F.getD w 0 : Nat)) := by
    rcases hs with ⟨q, _⟩ | ⟨q, _⟩ | ⟨_, h⟩ | ⟨q, _⟩ | ⟨q, _⟩ <;> first | omega | exact h
  obtain ⟨f, hf⟩ : ∃ f, F.getD w 0 = f + 1 := ⟨F.getD w 0 - 1, by omega⟩
  rw [hf] at h1 h2 h3 h4
  have ha : slHome (cSc N M B) p.k = ((3 + N + j : Nat) : Int) := by rw [h3]; exact cSc_home hd hj ⟨h1, h2⟩
  have hv : ldV L ((3 + N + j : Nat) : Int) = 2 + 16 * ((B : Int) - (f + 1 : Nat)) := by rw [sc_ld (by omega), h4]
  obtain ⟨V, hV⟩ : ∃ V, V = 2 + 16 * ((B : Int) - f) := ⟨_, rfl⟩
  have hnow : slNow L ((3 + N + j : Nat) : Int) = V := by
    unfold slNow
    rw [hv, IntKind.wrap_u64]
    omega
  have had : adL L ((3 + N + j : Nat) : Int) 16 = L.set (3 + N + j) V := by
    rw [sc_ad (by omega), h4, IntKind.wrap_u64]
    congr 1
    omega
  have K := (slabLn_keeps (c := cSc N M B) (a := a) h.wr hq).fin
  have e1 : slabLn (cSc N M B) a L p = sl30 (cSc N M B) L p := by unfold slabLn; simp [hl]
  obtain ⟨s1, s2, s3, s4⟩ := h.sl j hj
  have g0 : (L.set (3 + N + j) V).getD 0 0 = L.getD 0 0 := by rw [scset, if_neg (by omega)]
  by_cases hf0 : f = 0
  · have er : (slabLn (cSc N M B) a L p).fin = ⟨acc L 4 ((3 + N + j : Nat) : Int) 16 0, L.set (3 + N + j) V, { p with ln := 31 }, 0, true⟩ := by
      rw [e1]
      unfold sl30
      rw [ha, hnow, if_pos (by show V / 16 % 4096 = (B : Int); omega), had]
      rfl
    rw [er] at K ⊢
    refine ⟨rfl, g0, .inl ⟨rfl, ?_⟩⟩
    refine sc_one h hw hj (.inl hH) _ V (F' := F) (f := 0) (.inl rfl) (H' := H) (o := 0) (.inl rfl) (T' := T) (t := 0) (.inl rfl) (by omega) K.wr K.pr ?_ ?_
    · refine .inr (.inr ⟨j, hj, ho, hH, .inr (.inr (.inr (.inl ⟨rfl, by omega, ?_, ?_⟩)))⟩)
      · show p.k = _
        rw [h3, hf0]
      · rw [scset, if_pos ⟨rfl, by omega⟩, hV, hf0]
        omega
    · exact ⟨fun _ => .inr (by omega), fun q => by omega, s3, s4⟩
  · have er : (slabLn (cSc N M B) a L p).fin = ⟨acc L 4 ((3 + N + j : Nat) : Int) 16 0, L.set (3 + N + j) V, { p with k := 0, ln := 0 }, 1, true⟩ := by
      rw [e1]
      unfold sl30
      rw [ha, hnow, if_neg (by show ¬ V / 16 % 4096 = (B : Int); omega), had]
      rfl
    rw [er] at K ⊢
    refine ⟨rfl, g0, .inr (.inr (.inr (.inr (.inl ⟨rfl, hl, j, f, hj, ho, hf, by omega, by omega, ?_⟩))))⟩
    refine sc_one h hw hj (.inl hH) _ V (.inr rfl) (H' := H) (o := 0) (.inl rfl) (T' := T) (t := 0) (.inl rfl) (by omega) K.wr ⟨K.pr.ep, K.pr.h, K.pr.n, K.pr.v, K.pr.u, K.pr.g, K.pr.t⟩ ?_ ?_
    · have gF : (F.set w f).getD w 0 = f := by rw [scset, if_pos ⟨rfl, by omega⟩]
      refine .inr (.inr ⟨j, hj, ho, hH, .inr (.inr (.inl ⟨rfl, by rw [gF]; omega, by rw [gF]; omega, by rw [gF], ?_⟩))⟩)
      rw [scset, if_pos ⟨rfl, by omega⟩, gF]
      exact hV
    · exact ⟨fun _ => .inr (by omega), fun q => by omega, s3, s4⟩
theorem sc31 (hd : ScD N M B) (h : ScI N M B G L P F H T) (hw : w < N) (hp : scP P w = p) (hl : p.ln = 31) : ScO N M B G L P F H T w p (slabLn (cSc N M B) a L p).fin := by
  have hz := h.size hd
  have hs := h.st w hw
  have hq := h.pr w hw
  rw [hp] at hs hq
  obtain ⟨j, hj, ho, hH, hs⟩ := hs.own (by omega) (by omega)
  obtain ⟨h1, h2, h3⟩ : F.getD w 0 = 1 ∧ p.k = (j : Int) * B + (1 : Nat) ∧ L.getD (3 + N + j) 0 = 2 + 16 * (B : Int) := by
    rcases hs with ⟨q, _⟩ | ⟨q, _⟩ | ⟨q, _⟩ | ⟨_, h⟩ | ⟨q, _⟩ <;> first | omega | exact h
  have hv : ldV L 0 = L.getD 0 0 := sc_ld (i := 0) (by omega)
  have K := (slabLn_keeps (c := cSc N M B) (a := a) h.wr hq).fin
  have e1 : slabLn (cSc N M B) a L p = sl31 L p := by unfold slabLn; simp [hl]
  have er : (slabLn (cSc N M B) a L p).fin = ⟨acc L 1 0 0 0, L, { p with v := L.getD 0 0, ln := 32 }, 0, true⟩ := by
    rw [e1]
    unfold sl31
    rw [hv]
    rfl
  rw [er] at K ⊢
  exact ⟨rfl, rfl, .inl ⟨rfl, h.same hw _ K.pr (.inr (.inr ⟨j, hj, ho, hH, .inr (.inr (.inr (.inr ⟨rfl, h1, h2, h3, h.g.1, Int.le_refl _⟩)))⟩))⟩⟩
theorem sc32 (hd : ScD N M B) (hG : G ≤ 900) (h : ScI N M B G L P F H T) (hw : w < N) (hp : scP P w = p) (hl : p.ln = 32) : ScO N M B G L P F H T w p (slabLn (cSc N M B) a L p).fin := by
  have hz := h.size hd
  have hb := hd.b
  have hm := hd.m
  have hg := h.g
  have hHl := h.nH
  have hTl := h.nT
  have hs := h.st w hw
  have hq := h.pr w hw
  rw [hp] at hs hq
  obtain ⟨j, hj, ho, hH, hs⟩ := hs.own (by omega) (by omega)
  obtain ⟨h1, h2, h3, h4, h5⟩ : F.getD w 0 = 1 ∧ p.k = (j : Int) * B + (1 : Nat) ∧ L.getD (3 + N + j) 0 = 2 + 16 * (B : Int) ∧ 2 ≤ p.v ∧ p.v ≤ L.getD 0 0 := by
    rcases hs with ⟨q, _⟩ | ⟨q, _⟩ | ⟨q, _⟩ | ⟨q, _⟩ | ⟨_, h⟩ <;> first | omega | exact h
  have ha : slHome (cSc N M B) p.k = ((3 + N + j : Nat) : Int) := by rw [h2]; exact cSc_home hd hj ⟨by omega, by omega⟩
  have K := (slabLn_keeps (c := cSc N M B) (a := a) h.wr hq).fin
  have e1 : slabLn (cSc N M B) a L p = sl32 (cSc N M B) L p := by unfold slabLn; simp [hl]
  obtain ⟨V, hV⟩ : ∃ V, V = Pk.sl 3 0 p.v := ⟨_, rfl⟩
  have hVe : V = 3 + 65536 * p.v := by rw [hV]; unfold Pk.sl; omega
  have er : (slabLn (cSc N M B) a L p).fin = ⟨acc L 2 ((3 + N + j : Nat) : Int) V 0, L.set (3 + N + j) V, { p with k := 0, ln := 0 }, 1, true⟩ := by
    rw [e1]
    unfold sl32
    rw [ha, stL_at (by omega), ← hV]
    rfl
  rw [er] at K ⊢
  have hgw := ldV_wr h.wr (0 : Int)
  rw [show (0 : Int) = ((0 : Nat) : Int) from rfl, sc_ld (by omega)] at hgw
  have g0 : (L.set (3 + N + j) V).getD 0 0 = L.getD 0 0 := by rw [scset, if_neg (by omega)]
  refine ⟨rfl, g0, .inr (.inr (.inr (.inr (.inr ⟨rfl, hl, j, hj, ho, h1, hH, ?_, ?_⟩))))⟩
  · show (L.set (3 + N + j) V).getD (3 + N + j) 0 % 16 = 3
    rw [scset, if_pos ⟨rfl, by omega⟩]
    omega
  · refine sc_one h hw hj (.inl hH) _ V (.inr rfl) (.inr rfl) (.inr rfl) (by omega) K.wr ⟨hgw, K.pr.h, K.pr.n, K.pr.v, K.pr.u, K.pr.g, K.pr.t⟩ ?_ ?_
    · exact .inl ⟨rfl, Int.le_refl _, by show (0 : Int) < M; omega, by show 2 ≤ L.getD 0 0; omega, by rw [g0]; exact Int.le_refl _⟩
    · rw [scset, if_pos ⟨rfl, by omega⟩, scset, if_pos ⟨rfl, by omega⟩]
      exact ⟨fun q => absurd rfl q, fun _ => .inr ⟨hVe, h4⟩, by omega, h5⟩
theorem sc_pick (hd : ScD N M B) (hG : G ≤ 900) (h : ScI N M B G L P F H T) (hw : w < N) (hp : scP P w = p) : ScO N M B G L P F H T w p (slabLn (cSc N M B) a L p).fin := by
  have hs := h.st w hw
  rw [hp] at hs
  rcases (show p.ln = 33 ∨ p.ln = 34 ∨ p.ln = 36 ∨ p.ln = 37 ∨ p.ln = 30 ∨ p.ln = 31 ∨ p.ln = 32 by
    rcases hs with ⟨q, _⟩ | ⟨q, _⟩ | ⟨j, _, _, _, q⟩
    · omega
    · omega
    · omega) with q | q | q | q | q | q | q
  · exact sc33 hd h hw hp q
  · exact sc34 hd h hw hp q
  · exact sc36 hd h hw hp q
  · exact sc37 hd h hw hp q
  · exact sc30 hd h hw hp q
  · exact sc31 hd h hw hp q
  · exact sc32 hd hG h hw hp q
end
/-- The start. -/
def scP0 : Pl := { pz with ln := 33, ep := 2, o3 := -1 }
def scOk (N M B : Nat) : Bool :=
  let L := firstL (cSc N M B)
  decide ((L.length : Int) = siz (cSc N M B)) && L.all (fun x => decide (0 ≤ x ∧ x < 18446744073709551616)) && decide (L.getD 0 0 = 2) && (List.range M).all (fun j => decide (L.getD (3 + N + j) 0 = 0))
theorem sc_all : ∀ (n : Fin 8) (m : Fin 3) (b : Fin 4), scOk (n.val + 1) (m.val + 1) (b.val + 1) = true := by decide +kernel
theorem sc_start {N M B : Nat} (hd : ScD N M B) : ScI N M B 0 (firstL (cSc N M B)) (List.replicate N scP0) (List.replicate N 0) (List.replicate M 0) (List.replicate M 0) := by
  have hn := hd.n
  have hm := hd.m
  have hb := hd.b
  have h := sc_all ⟨N - 1, by omega⟩ ⟨M - 1, by omega⟩ ⟨B - 1, by omega⟩
  simp only at h
  rw [show N - 1 + 1 = N by omega, show M - 1 + 1 = M by omega, show B - 1 + 1 = B by omega] at h
  unfold scOk at h
  simp only [Bool.and_eq_true, decide_eq_true_eq, List.all_eq_true, List.mem_range] at h
  obtain ⟨⟨⟨k1, k2⟩, k3⟩, k4⟩ := h
  have gp : ∀ k, k < N → scP (List.replicate N scP0) k = scP0 := fun k hk => by
    unfold scP
    rw [List.getD_eq_getElem?_getD, List.getElem?_replicate, if_pos hk]
    rfl
  refine ⟨k1, k2, by simp, by simp, by simp, by simp, by rw [k3]; decide, ?_, ?_, ?_⟩
  · intro k hk
    rw [gp k hk]
    constructor <;> decide
  · intro k hk
    rw [gp k hk]
    exact .inl ⟨rfl, by decide, by show (0 : Int) < M; omega, by decide, by rw [k3]; decide⟩
  · intro j hj
    have e1 : (List.replicate M (0 : Nat)).getD j 0 = 0 := by rw [List.getD_eq_getElem?_getD, List.getElem?_replicate, if_pos hj]; rfl
    have e2 : (List.replicate M (0 : Int)).getD j 0 = 0 := by rw [List.getD_eq_getElem?_getD, List.getElem?_replicate, if_pos hj]; rfl
    rw [k4 j hj, e1, e2, k3]
    exact ⟨fun q => absurd rfl q, fun _ => .inl ⟨rfl, rfl⟩, by decide, by decide⟩
end Go.Proofs.Ytblkfbbdeodpjaa.Me
