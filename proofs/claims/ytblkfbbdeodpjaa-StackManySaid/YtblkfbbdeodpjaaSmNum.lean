/- StackMany: what a pick does to the words, to the workers' states and to the list (made by gensm.py). -/
import Derived.Test.YtblkfbbdeodpjaaListNum
import Derived.Test.YtblkfbbdeodpjaaStackStep
import Derived.Test.YtblkfbbdeodpjaaFirsts
namespace Go.Proofs.Ytblkfbbdeodpjaa.Me
open Go Go.RowKit Go.Proofs.Ytblkfbbdeodpjaa.Gro Go.Proofs.Ytblkfbbdeodpjaa.Own Go.Proofs.Ytblkfbbdeodpjaa.Wd Go.Proofs.Ytblkfbbdeodpjaa.Ap Go.Proofs.Ytblkfbbdeodpjaa.Pl Go.Proofs.Ytblkfbbdeodpjaa.Wo
set_option linter.unusedVariables false
set_option linter.unusedSimpArgs false
theorem smset {α : Type} (l : List α) (w k : Nat) (x d : α) : (l.set w x).getD k d = if k = w ∧ w < l.length then x else l.getD k d := by
  rw [List.getD_eq_getElem?_getD, List.getElem?_set, List.getD_eq_getElem?_getD]
  by_cases h : w = k
  · subst h
    by_cases h2 : w < l.length
    · simp [h2]
    · rw [if_pos rfl, if_neg h2, if_neg (by omega), List.getElem?_eq_none (by omega)]
  · rw [if_neg h, if_neg (by omega)]
theorem sm_ld {L : List Int} {i : Nat} (hi : i < L.length) : ldV L (i : Int) = L.getD i 0 := by
  unfold ldV
  rw [if_pos ⟨by omega, by omega⟩]
  simp
theorem sm_cs {L : List Int} {i : Nat} (hi : i < L.length) (x : Int) : csB L (i : Int) x = decide (L.getD i 0 = x) := by
  unfold csB
  rw [decide_eq_true (show 0 ≤ (i : Int) ∧ (i : Int) < (L.length : Int) from ⟨by omega, by omega⟩)]
  simp
def smP (P : List Pl) (k : Nat) : Pl := P.getD k pz
abbrev cSm (N E : Nat) : Cfg := ⟨N, 1, 1, 1, E, 0, 1, 1⟩
section
variable {N E : Nat} (h : 1 ≤ N ∧ N ≤ 8) (he : 1 ≤ E ∧ E ≤ 16)
include h he
theorem cSm_chk : chk (cSm N E) = 0 := chk_ok.2 ⟨by simp only; omega, by simp only; omega, by simp only; omega, by simp only; omega, by simp only; omega, by simp only; omega, by simp only; omega, by simp only; omega⟩
theorem cSm_wf : (cSm N E).Wf := by
  have h1 := h.1
  have h2 := he.1
  constructor <;> simp only [] <;> first | omega | decide
theorem cSm_enl {i : Nat} (hi : i < E) : aEnl (cSm N E) (i : Int) = ((5 + N + 2 * i : Nat) : Int) := by
  have hb : hasB (cSm N E) (i : Int) (cSm N E).en = true := by
    unfold hasB
    rw [okB_of_ok (chk_ok.1 (cSm_chk h he))]
    simp
    omega
  rw [aEnl, if_pos hb]
  simp only
  omega
theorem cSm_siz : siz (cSm N E) = 6 + (N : Int) + 2 * E := by
  rw [siz, if_pos (okB_of_ok (chk_ok.1 (cSm_chk h he)))]
  simp only
  omega
end
/-- The word of a list's head without its version; the links follow the list. -/
def smH : List Nat → Int
  | [] => 0
  | a :: _ => (a : Int) + 1
def smC (N : Nat) (L : List Int) : List Nat → Prop
  | [] => True
  | a :: r => low32 (L.getD (5 + N + 2 * a) 0) = smH r ∧ smC N L r
theorem smC_set2 {N : Nat} {L : List Int} {v : Int} : ∀ {S : List Nat}, smC N L S → smC N (L.set 2 v) S
  | [], _ => trivial
  | a :: r, h => ⟨by rw [smset, if_neg (by omega)]; exact h.1, smC_set2 h.2⟩
theorem smC_set {N a : Nat} {L : List Int} {v : Int} : ∀ {S : List Nat}, a ∉ S → smC N L S → smC N (L.set (5 + N + 2 * a) v) S
  | [], _, _ => trivial
  | b :: r, ha, h => by
    simp only [List.mem_cons, not_or] at ha
    exact ⟨by rw [smset, if_neg (by omega)]; exact h.1, smC_set ha.2 h.2⟩
/-- The reference's walk finds the list. -/
theorem sm_walk {nx : Nat → Int} {N : Nat} {L : List Int} {E : Nat} (hnx : ∀ a, a < E → nx a = low32 (L.getD (5 + N + 2 * a) 0) - 1) : ∀ (S : List Nat) (f : Nat) (seen : List Bool) (out : List Int), smC N L S → S.Nodup → (∀ a ∈ S, a < E) → seen.length = E → (∀ a ∈ S, seen.getD a true = false) → seen.count false < f →
    walkL nx f seen out (smH S - 1) = some (out ++ S.map Int.ofNat)
  | [], f, seen, out, _, _, _, _, _, hf => by
    obtain ⟨k, rfl⟩ : ∃ k, f = k + 1 := ⟨f - 1, by omega⟩
    rw [walk_end (by decide)]
    simp
  | a :: r, f, seen, out, hc, hn, hb, hl, hs, hf => by
    obtain ⟨k, rfl⟩ : ∃ k, f = k + 1 := ⟨f - 1, by omega⟩
    have haE := hb a (List.mem_cons_self ..)
    have hal : a < seen.length := by omega
    have hsa : seen[a] = false := by
      have := hs a (List.mem_cons_self ..)
      rwa [List.getD_eq_getElem?_getD, List.getElem?_eq_getElem hal] at this
    have e1 : smH (a :: r) - 1 = (a : Int) := by
      show (a : Int) + 1 - 1 = a
      omega
    rw [e1, walk_on hal hsa, hnx a haE, hc.1]
    have hfl := free_less hal hsa
    obtain ⟨hn1, hn2⟩ := List.nodup_cons.1 hn
    rw [sm_walk hnx r k (seen.set a true) (out ++ [(a : Int)]) hc.2 hn2 (fun b q => hb b (List.mem_cons_of_mem _ q)) (by simpa using hl) (fun b q => by
      rw [smset, if_neg (by
        rintro ⟨rfl, _⟩
        exact hn1 q)]
      exact hs b (List.mem_cons_of_mem _ q)) (by omega)]
    simp
theorem sm_list {N E : Nat} (h : 1 ≤ N ∧ N ≤ 8) (he : 1 ≤ E ∧ E ≤ 16) {L : List Int} {S : List Nat} (hl : L.length = 6 + N + 2 * E) (hc : smC N L S) (hn : S.Nodup) (hb : ∀ a ∈ S, a < E) (hh : low32 (L.getD 2 0) = smH S) : listR (cSm N E) L true = some (S.map Int.ofNat) := by
  unfold listR
  rw [if_pos ⟨cSm_chk h he, by rw [cSm_siz h he, hl]; omega⟩]
  have e1 : low32 (L.getD (skH true).toNat 0) = smH S := hh
  have e2 : (lsN (cSm N E) true).toNat = E := by unfold lsN; simp
  rw [e1, e2]
  have := sm_walk (nx := lsNx (cSm N E) L true) (N := N) (L := L) (E := E) (fun a ha => by
    unfold lsNx skLk
    rw [if_pos rfl, cSm_enl h he ha, Int.toNat_natCast]) S (E + 1) (List.replicate E false) [] hc hn hb (by simp) (fun a ha => by
    rw [List.getD_eq_getElem?_getD, List.getElem?_replicate, if_pos (hb a ha)]; rfl) (by simp)
  rw [this]
  simp
/-- A word that was the head's once. -/
def SmV (V v : Int) : Prop := v / 4294967296 ≤ V / 4294967296 ∧ (v / 4294967296 = V / 4294967296 → v = V)
def SmS (N E : Nat) (L : List Int) (p : Pl) : Prop :=
  (p.ln = 20 ∧ p.i = 0) ∨ (p.ln = 21 ∧ p.i = 0 ∧ 1 ≤ p.h ∧ p.h ≤ E ∧ p.h = low32 p.v ∧ SmV (L.getD 2 0) p.v)
  ∨ (p.ln = 22 ∧ p.i = 0 ∧ 1 ≤ p.h ∧ p.h ≤ E ∧ p.h = low32 p.v ∧ SmV (L.getD 2 0) p.v ∧ (p.v = L.getD 2 0 → low32 p.n = low32 (L.getD (5 + N + 2 * (p.h.toNat - 1)) 0)))
  ∨ (p.ln = 23 ∧ 1 ≤ p.i ∧ p.i ≤ E) ∨ (p.ln = 24 ∧ 1 ≤ p.i ∧ p.i ≤ E ∧ SmV (L.getD 2 0) p.v)
  ∨ (p.ln = 25 ∧ 1 ≤ p.i ∧ p.i ≤ E ∧ SmV (L.getD 2 0) p.v ∧ low32 (L.getD (5 + N + 2 * (p.i.toNat - 1)) 0) = low32 p.v)
structure SmI (N E k : Nat) (L : List Int) (P : List Pl) (S : List Nat) : Prop where
  len : L.length = 6 + N + 2 * E
  wr : WR L
  nP : P.length = N
  nd : S.Nodup
  bd : ∀ a ∈ S, a < E
  hd : low32 (L.getD 2 0) = smH S
  ch : smC N L S
  ver : L.getD 2 0 / 4294967296 ≤ k
  pr : ∀ j, j < N → PR (smP P j)
  st : ∀ j, j < N → SmS N E L (smP P j)
  cnt : ∀ e, e < E → S.count e + (P.map (·.i)).count ((e : Int) + 1) = 1
theorem smP_set {P : List Pl} {w : Nat} (hw : w < P.length) (q : Pl) (j : Nat) : smP (P.set w q) j = if j = w then q else smP P j := by
  unfold smP
  rw [smset]
  by_cases hk : j = w
  · rw [if_pos ⟨hk, hw⟩, if_pos hk]
  · rw [if_neg (by omega), if_neg hk]
theorem SmI.upd {N E k w : Nat} {L L' : List Int} {P : List Pl} {S S' : List Nat} (h : SmI N E k L P S) (hw : w < N) (q : Pl) (e1 : L'.length = L.length) (e2 : WR L') (e3 : S'.Nodup) (e4 : ∀ a ∈ S', a < E) (e5 : low32 (L'.getD 2 0) = smH S') (e6 : smC N L' S')
    (e7 : L'.getD 2 0 / 4294967296 ≤ (k : Int) + 1) (f1 : PR q) (f2 : SmS N E L' q) (f3 : ∀ j, j < N → j ≠ w → SmS N E L (smP P j) → SmS N E L' (smP P j)) (f4 : ∀ e, e < E → S'.count e + ((P.map (·.i)).set w q.i).count ((e : Int) + 1) = 1) : SmI N E (k + 1) L' (P.set w q) S' := by
  have hP := h.nP
  refine ⟨by rw [e1]; exact h.len, e2, by rw [List.length_set]; exact hP, e3, e4, e5, e6, by rw [Int.natCast_succ]; exact e7, ?_, ?_, ?_⟩
  · intro j hj
    rw [smP_set (by omega)]
    split
    · exact f1
    · exact h.pr j hj
  · intro j hj
    rw [smP_set (by omega)]
    split
    · exact f2
    · rename_i hne
      exact f3 j hj hne (h.st j hj)
  · intro e he
    rw [List.map_set]
    exact f4 e he
theorem smP_i {P : List Pl} {w : Nat} (hw : w < P.length) : (P.map (·.i))[w]'(by simpa using hw) = (smP P w).i := by
  unfold smP
  rw [List.getD_eq_getElem?_getD, List.getElem?_eq_getElem hw]
  simp
/-- Nothing is written but the state, whose entry stays. -/
theorem SmI.same {N E k w : Nat} {L : List Int} {P : List Pl} {S : List Nat} (h : SmI N E k L P S) (hw : w < N) (q : Pl) (f1 : PR q) (f2 : SmS N E L q) (fi : q.i = (smP P w).i) : SmI N E (k + 1) L (P.set w q) S := by
  have hP := h.nP
  refine h.upd hw q rfl h.wr h.nd h.bd h.hd h.ch (by have := h.ver; omega) f1 f2 (fun _ _ _ x => x) fun e he => ?_
  rw [fi, ← smP_i (by omega), List.set_getElem_self]
  exact h.cnt e he
theorem z0s : (0 : Int) ≤ 0 ∧ (0 : Int) < 18446744073709551616 := by decide
theorem prz20 : PR { pz with ln := 20 } := by constructor <;> decide
/-- How a pick ends. -/
def SmO (N E k : Nat) (P : List Pl) (w : Nat) (p : Pl) (r : Res) : Prop :=
  ∃ (q : Pl) (S' : List Nat), SmI N E (k + 1) r.L (P.set w q) S' ∧ r.ok = true ∧
    ((r.way = 0 ∧ q = r.p) ∨ (r.way = 1 ∧ p.ln = 22 ∧ q = { pz with ln := 23, i := r.p.h } ∧ 0 ≤ r.p.h ∧ r.p.h ≤ 16) ∨ (r.way = 2 ∧ q = { pz with ln := 20 }) ∨ (r.way = 1 ∧ p.ln = 25 ∧ q = { pz with ln := 20 }))
theorem skNew_parts (x y : Int) (hx : 0 ≤ x + 1 ∧ x + 1 ≤ 1000) (hy : 0 ≤ y / 4294967296 ∧ y / 4294967296 ≤ 1000) : low32 (skNew x y) = x + 1 ∧ skNew x y / 4294967296 = y / 4294967296 + 1 := by
  unfold low32 skNew Pk.hd
  omega
section
variable {N E k w : Nat} {a : Acc} {L : List Int} {P : List Pl} {S : List Nat} {p : Pl}
theorem sm_sk (k : Int) (hk : k = 10 ∨ k = 11 ∨ k = 12 ∨ k = 13 ∨ k = 14 ∨ k = 15) (hl : p.ln = k + 10) (c : Cfg) : stackLn c a L p = (if k = 10 then sk10 c L p true else if k = 11 then sk11 c L p true else if k = 12 then sk12 c L p true else if k = 13 then sk13 c L p true else if k = 14 then sk14 c L p true else sk15 c L p true) := by
  unfold stackLn skGo
  rcases hk with rfl | rfl | rfl | rfl | rfl | rfl <;> rw [hl] <;> simp [skLn]
theorem sm_top (hd : low32 (L.getD 2 0) = smH S) (h0 : low32 (L.getD 2 0) ≠ 0) : ∃ b r, S = b :: r ∧ low32 (L.getD 2 0) = (b : Int) + 1 := by
  cases S with
  | nil => exact absurd hd h0
  | cons b r => exact ⟨b, r, rfl, hd⟩
/-- Another worker's state, where the head is swapped. -/
theorem sm_swap {v : Int} {j : Nat} (hlen : 2 < L.length) (hv : v / 4294967296 = L.getD 2 0 / 4294967296 + 1) (hs : SmS N E L p) : SmS N E (L.set 2 v) p := by
  have g2 : (L.set 2 v).getD 2 0 = v := by rw [smset, if_pos ⟨rfl, hlen⟩]
  have g : ∀ j, (L.set 2 v).getD (5 + N + 2 * j) 0 = L.getD (5 + N + 2 * j) 0 := fun j => by rw [smset, if_neg (by omega)]
  have gv : ∀ x, SmV (L.getD 2 0) x → SmV v x ∧ x ≠ v := fun x hx => by
    obtain ⟨h1, h2⟩ := hx
    refine ⟨⟨by omega, fun q => by omega⟩, fun q => by rw [q] at h1; omega⟩
  unfold SmS
  rw [g2]
  rcases hs with ⟨h1, h2⟩ | ⟨h1, h2, h3, h4, h5, h6⟩ | ⟨h1, h2, h3, h4, h5, h6, h7⟩ | ⟨h1, h2, h3⟩ | ⟨h1, h2, h3, h4⟩ | ⟨h1, h2, h3, h4, h5⟩
  · exact .inl ⟨h1, h2⟩
  · exact .inr (.inl ⟨h1, h2, h3, h4, h5, (gv _ h6).1⟩)
  · exact .inr (.inr (.inl ⟨h1, h2, h3, h4, h5, (gv _ h6).1, fun q => absurd q (gv _ h6).2⟩))
  · exact .inr (.inr (.inr (.inl ⟨h1, h2, h3⟩)))
  · exact .inr (.inr (.inr (.inr (.inl ⟨h1, h2, h3, (gv _ h4).1⟩))))
  · exact .inr (.inr (.inr (.inr (.inr ⟨h1, h2, h3, (gv _ h4).1, by rw [g]; exact h5⟩))))
theorem sm20 (hN : 1 ≤ N ∧ N ≤ 8) (hE : 1 ≤ E ∧ E ≤ 16) (h : SmI N E k L P S) (hw : w < N) (hp : smP P w = p) (hl : p.ln = 20) : SmO N E k P w p (stackLn (cSm N E) a L p).fin := by
  have hlen := h.len
  have hs := h.st w hw
  have hq := h.pr w hw
  rw [hp] at hs hq
  have hv : ldV L 2 = L.getD 2 0 := sm_ld (i := 2) (by omega)
  have hi : p.i = 0 := by rcases hs with ⟨h1, h2⟩ | ⟨h1, h2⟩ | ⟨h1, h2⟩ | ⟨h1, h2⟩ | ⟨h1, h2⟩ | ⟨h1, h2⟩ <;> omega
  have K := (stackLn_keeps (c := cSm N E) (a := a) h.wr hq).fin
  have e1 : stackLn (cSm N E) a L p = sk10 (cSm N E) L p true := by rw [sm_sk 10 (.inl rfl) (by omega)]; rfl
  by_cases hz : low32 (L.getD 2 0) = 0
  · have er : (stackLn (cSm N E) a L p).fin = ⟨acc L 1 2 0 0, L, { p with v := L.getD 2 0, h := low32 (L.getD 2 0), ln := 0 }, 2, true⟩ := by
      rw [e1]
      unfold sk10
      rw [show skH true = 2 from rfl, hv, if_pos hz, if_pos hz]
      rfl
    rw [er] at K ⊢
    exact ⟨{ pz with ln := 20 }, S, h.same hw _ prz20 (.inl ⟨rfl, rfl⟩) (by rw [hp, hi]; rfl), rfl, .inr (.inr (.inl ⟨rfl, rfl⟩))⟩
  · have er : (stackLn (cSm N E) a L p).fin = ⟨acc L 1 2 0 0, L, { p with v := L.getD 2 0, h := low32 (L.getD 2 0), ln := 21 }, 0, true⟩ := by
      rw [e1]
      unfold sk10
      rw [show skH true = 2 from rfl, hv, if_neg hz, if_neg hz]
      rfl
    rw [er] at K ⊢
    obtain ⟨b, r, hS, hb⟩ := sm_top h.hd hz
    have hbE := h.bd b (by rw [hS]; exact List.mem_cons_self ..)
    refine ⟨_, S, h.same hw _ K.pr (.inr (.inl ⟨rfl, hi, ?_, ?_, rfl, Int.le_refl _, fun _ => rfl⟩)) (by rw [hp]), rfl, .inl ⟨rfl, rfl⟩⟩
    · show 1 ≤ low32 (L.getD 2 0)
      omega
    · show low32 (L.getD 2 0) ≤ E
      omega
theorem sm21 (hN : 1 ≤ N ∧ N ≤ 8) (hE : 1 ≤ E ∧ E ≤ 16) (h : SmI N E k L P S) (hw : w < N) (hp : smP P w = p) (hl : p.ln = 21) : SmO N E k P w p (stackLn (cSm N E) a L p).fin := by
  have hlen := h.len
  have hs := h.st w hw
  have hq := h.pr w hw
  rw [hp] at hs hq
  obtain ⟨hi, h1, h2, h3, h4⟩ : p.i = 0 ∧ 1 ≤ p.h ∧ p.h ≤ E ∧ p.h = low32 p.v ∧ SmV (L.getD 2 0) p.v := by
    rcases hs with ⟨q, _⟩ | ⟨q, h⟩ | ⟨q, _⟩ | ⟨q, _⟩ | ⟨q, _⟩ | ⟨q, _⟩ <;> first | omega | exact h
  have hwr : wrap64 (p.h - 1) = ((p.h.toNat - 1 : Nat) : Int) := by unfold wrap64; omega
  have hk : skLk (cSm N E) true (wrap64 (p.h - 1)) = ((5 + N + 2 * (p.h.toNat - 1) : Nat) : Int) := by
    unfold skLk
    rw [if_pos rfl, hwr]
    exact cSm_enl hN hE (by omega)
  have hv : ldV L ((5 + N + 2 * (p.h.toNat - 1) : Nat) : Int) = L.getD (5 + N + 2 * (p.h.toNat - 1)) 0 := sm_ld (by omega)
  have K := (stackLn_keeps (c := cSm N E) (a := a) h.wr hq).fin
  have e1 : stackLn (cSm N E) a L p = sk11 (cSm N E) L p true := by rw [sm_sk 11 (by omega) (by omega)]; rfl
  have er : (stackLn (cSm N E) a L p).fin = ⟨acc L 1 ((5 + N + 2 * (p.h.toNat - 1) : Nat) : Int) 0 0, L, { p with n := L.getD (5 + N + 2 * (p.h.toNat - 1)) 0, ln := 22 }, 0, true⟩ := by
    rw [e1]
    unfold sk11
    rw [hk, hv]
    simp [skLn, Res.fin]
  rw [er] at K ⊢
  exact ⟨_, S, h.same hw _ K.pr (.inr (.inr (.inl ⟨rfl, hi, h1, h2, h3, h4, fun _ => rfl⟩))) (by rw [hp]), rfl, .inl ⟨rfl, rfl⟩⟩
theorem sm22 (hN : 1 ≤ N ∧ N ≤ 8) (hE : 1 ≤ E ∧ E ≤ 16) (hk6 : k ≤ 600) (h : SmI N E k L P S) (hw : w < N) (hp : smP P w = p) (hl : p.ln = 22) : SmO N E k P w p (stackLn (cSm N E) a L p).fin := by
  have hlen := h.len
  have hP := h.nP
  have hs := h.st w hw
  have hq := h.pr w hw
  rw [hp] at hs hq
  obtain ⟨hi, h1, h2, h3, h4, h5⟩ : p.i = 0 ∧ 1 ≤ p.h ∧ p.h ≤ E ∧ p.h = low32 p.v ∧ SmV (L.getD 2 0) p.v ∧ (p.v = L.getD 2 0 → low32 p.n = low32 (L.getD (5 + N + 2 * (p.h.toNat - 1)) 0)) := by
    rcases hs with ⟨q, _⟩ | ⟨q, _⟩ | ⟨q, h⟩ | ⟨q, _⟩ | ⟨q, _⟩ | ⟨q, _⟩ <;> first | omega | exact h
  have K := (stackLn_keeps (c := cSm N E) (a := a) h.wr hq).fin
  have e1 : stackLn (cSm N E) a L p = sk12 (cSm N E) L p true := by rw [sm_sk 12 (by omega) (by omega)]; rfl
  have hcg : csB L 2 p.v = decide (L.getD 2 0 = p.v) := sm_cs (i := 2) (by omega) _
  by_cases hc : L.getD 2 0 = p.v
  · have hcb : csB L 2 p.v = true := by rw [hcg]; simpa using hc
    have er : (stackLn (cSm N E) a L p).fin = ⟨acc L 3 2 p.v (skNew (low32 p.n - 1) p.v), L.set 2 (skNew (low32 p.n - 1) p.v), { p with ln := 0 }, 1, true⟩ := by
      rw [e1]
      unfold sk12 skSwap
      simp [skH, hcb, Res.fin, csL_yes hcb]
    rw [er] at K ⊢
    obtain ⟨b, r, hS, hb⟩ := sm_top h.hd (by rw [hc, ← h3]; omega)
    subst hS
    have hbE := h.bd b (List.mem_cons_self ..)
    have hbh : p.h.toNat - 1 = b := by rw [hc, ← h3] at hb; omega
    have hch := h.ch
    have hlow : low32 p.n = smH r := by rw [h5 hc.symm, hbh]; exact hch.1
    have hr01 : 0 ≤ smH r ∧ smH r ≤ 17 := by
      cases r with
      | nil => exact ⟨by decide, by decide⟩
      | cons d t =>
        have := h.bd d (List.mem_cons_of_mem _ (List.mem_cons_self ..))
        show 0 ≤ (d : Int) + 1 ∧ (d : Int) + 1 ≤ 17
        omega
    have hver := h.ver
    have hwrv := hq.v
    obtain ⟨k1, k2⟩ := skNew_parts (low32 p.n - 1) p.v (by omega) (by rw [hc] at hver; omega)
    have g2 : ((L.set 2 (skNew (low32 p.n - 1) p.v)).getD 2 0) = skNew (low32 p.n - 1) p.v := by rw [smset, if_pos ⟨rfl, by omega⟩]
    obtain ⟨hn1, hn2⟩ := List.nodup_cons.1 h.nd
    refine ⟨{ pz with ln := 23, i := p.h }, r, h.upd hw _ (by simp) K.wr hn2 (fun x q => h.bd x (List.mem_cons_of_mem _ q)) (by rw [g2, k1, hlow]; omega) (smC_set2 hch.2) (by rw [g2, k2, ← hc]; omega) ⟨z0s, z0s, z0s, z0s, z0s, z0s, z0s⟩ (.inr (.inr (.inr (.inl ⟨rfl, h1, h2⟩)))) (fun j _ _ q => sm_swap (j := j) (by omega) (by rw [k2, hc]) q) ?_, rfl, .inr (.inl ⟨rfl, hl, rfl, ?_, ?_⟩)⟩
    · intro e he
      have hcn := h.cnt e he
      have hiw := smP_i (P := P) (w := w) (by omega)
      rw [hp, hi] at hiw
      rw [List.count_set (by simpa using (show w < P.length by omega)), hiw]
      rw [List.count_cons] at hcn
      have e3 : ((0 : Int) == (e : Int) + 1) = false := by simp; omega
      rw [e3]
      have e4 : (p.h == (e : Int) + 1) = (b == e) := by
        by_cases q : b = e
        · rw [show p.h = (e : Int) + 1 by omega]; simp [q]
        · have : p.h ≠ (e : Int) + 1 := by omega
          rw [beq_eq_false_iff_ne.2 this, beq_eq_false_iff_ne.2 q]
      show List.count e r + (List.count ((e : Int) + 1) (List.map (fun x => x.i) P) - (if false = true then 1 else 0) + (if (p.h == (e : Int) + 1) = true then 1 else 0)) = 1
      rw [e4]
      simp only [Bool.false_eq_true, if_false]
      omega
    · show 0 ≤ p.h
      omega
    · show p.h ≤ 16
      omega
  · have hcb : csB L 2 p.v = false := by rw [hcg]; simpa using hc
    have er : (stackLn (cSm N E) a L p).fin = ⟨acc L 3 2 p.v (skNew (low32 p.n - 1) p.v), L, { p with ln := 20 }, 0, true⟩ := by
      rw [e1]
      unfold sk12 skSwap
      simp [skH, skLn, hcb, Res.fin, csL_no hcb]
    rw [er] at K ⊢
    exact ⟨_, S, h.same hw _ K.pr (.inl ⟨rfl, hi⟩) (by rw [hp]), rfl, .inl ⟨rfl, rfl⟩⟩
theorem sm23 (hN : 1 ≤ N ∧ N ≤ 8) (hE : 1 ≤ E ∧ E ≤ 16) (h : SmI N E k L P S) (hw : w < N) (hp : smP P w = p) (hl : p.ln = 23) : SmO N E k P w p (stackLn (cSm N E) a L p).fin := by
  have hlen := h.len
  have hs := h.st w hw
  have hq := h.pr w hw
  rw [hp] at hs hq
  obtain ⟨h1, h2⟩ : 1 ≤ p.i ∧ p.i ≤ E := by
    rcases hs with ⟨q, _⟩ | ⟨q, _⟩ | ⟨q, _⟩ | ⟨q, h⟩ | ⟨q, _⟩ | ⟨q, _⟩ <;> first | omega | exact h
  have hv : ldV L 2 = L.getD 2 0 := sm_ld (i := 2) (by omega)
  have K := (stackLn_keeps (c := cSm N E) (a := a) h.wr hq).fin
  have e1 : stackLn (cSm N E) a L p = sk13 (cSm N E) L p true := by rw [sm_sk 13 (by omega) (by omega)]; rfl
  have er : (stackLn (cSm N E) a L p).fin = ⟨acc L 1 2 0 0, L, { p with v := L.getD 2 0, ln := 24 }, 0, true⟩ := by
    rw [e1]
    unfold sk13
    simp [skH, skLn, Res.fin, hv]
  rw [er] at K ⊢
  exact ⟨_, S, h.same hw _ K.pr (.inr (.inr (.inr (.inr (.inl ⟨rfl, h1, h2, Int.le_refl _, fun _ => rfl⟩))))) (by rw [hp]), rfl, .inl ⟨rfl, rfl⟩⟩
/-- A held entry is not on the list, and no two workers hold one. -/
theorem sm_held (h : SmI N E k L P S) (hw : w < N) {e : Nat} (he : e < E) (hi : (smP P w).i = (e : Int) + 1) : e ∉ S ∧ ∀ j, j < N → j ≠ w → (smP P j).i ≠ (e : Int) + 1 := by
  have hP := h.nP
  have hc := h.cnt e he
  have hiw := smP_i (P := P) (w := w) (by omega)
  have hm : (e : Int) + 1 ∈ P.map (·.i) := by rw [← hi, ← hiw]; exact List.getElem_mem _
  have hpos := List.count_pos_iff.2 hm
  refine ⟨fun q => by have := List.count_pos_iff.2 q; omega, fun j hj hne q => ?_⟩
  have hset := List.count_set (l := P.map (·.i)) (i := w) (a := (0 : Int)) (b := (e : Int) + 1) (by simpa using (show w < P.length by omega))
  rw [hiw, hi] at hset
  have hmem : (e : Int) + 1 ∈ (P.map (·.i)).set w 0 := by
    have hjl : j < ((P.map (·.i)).set w 0).length := by simp; omega
    have : ((P.map (·.i)).set w 0)[j] = (e : Int) + 1 := by
      rw [List.getElem_set_ne (by omega), smP_i (by omega)]
      exact q
    rw [← this]
    exact List.getElem_mem _
  have hp2 := List.count_pos_iff.2 hmem
  have e3 : ((0 : Int) == (e : Int) + 1) = false := by simp; omega
  rw [e3] at hset
  simp only [beq_self_eq_true, if_true, Bool.false_eq_true, if_false] at hset
  omega
theorem sm24 (hN : 1 ≤ N ∧ N ≤ 8) (hE : 1 ≤ E ∧ E ≤ 16) (h : SmI N E k L P S) (hw : w < N) (hp : smP P w = p) (hl : p.ln = 24) : SmO N E k P w p (stackLn (cSm N E) a L p).fin := by
  have hlen := h.len
  have hP := h.nP
  have hs := h.st w hw
  have hq := h.pr w hw
  rw [hp] at hs hq
  obtain ⟨h1, h2, h3⟩ : 1 ≤ p.i ∧ p.i ≤ E ∧ SmV (L.getD 2 0) p.v := by
    rcases hs with ⟨q, _⟩ | ⟨q, _⟩ | ⟨q, _⟩ | ⟨q, _⟩ | ⟨q, h⟩ | ⟨q, _⟩ <;> first | omega | exact h
  have hwr : wrap64 (p.i - 1) = ((p.i.toNat - 1 : Nat) : Int) := by unfold wrap64; omega
  have hk : skLk (cSm N E) true (skPut true p) = ((5 + N + 2 * (p.i.toNat - 1) : Nat) : Int) := by
    unfold skLk skPut
    rw [if_pos rfl, if_pos rfl, hwr]
    exact cSm_enl hN hE (by omega)
  have K := (stackLn_keeps (c := cSm N E) (a := a) h.wr hq).fin
  have e1 : stackLn (cSm N E) a L p = sk14 (cSm N E) L p true := by rw [sm_sk 14 (by omega) (by omega)]; rfl
  obtain ⟨b, hb⟩ : ∃ b, b = p.i.toNat - 1 := ⟨_, rfl⟩
  rw [← hb] at hk
  have hbi : p.i = (b : Int) + 1 := by omega
  have er : (stackLn (cSm N E) a L p).fin = ⟨acc L 2 ((5 + N + 2 * b : Nat) : Int) (low32 p.v) 0, L.set (5 + N + 2 * b) (low32 p.v), { p with ln := 25 }, 0, true⟩ := by
    rw [e1]
    unfold sk14
    rw [hk, stL_at (by omega)]
    simp [skLn, Res.fin]
  rw [er] at K ⊢
  obtain ⟨hnot, hoth⟩ := sm_held h hw (e := b) (by omega) (by rw [hp]; exact hbi)
  have g2 : ((L.set (5 + N + 2 * b) (low32 p.v)).getD 2 0) = L.getD 2 0 := by rw [smset, if_neg (by omega)]
  have gb : ((L.set (5 + N + 2 * b) (low32 p.v)).getD (5 + N + 2 * b) 0) = low32 p.v := by rw [smset, if_pos ⟨rfl, by omega⟩]
  have go : ∀ x, x ≠ b → ((L.set (5 + N + 2 * b) (low32 p.v)).getD (5 + N + 2 * x) 0) = L.getD (5 + N + 2 * x) 0 := fun x hx => by rw [smset, if_neg (by omega)]
  have hlo : low32 (low32 p.v) = low32 p.v := by unfold low32; omega
  have hver := h.ver
  refine ⟨_, S, h.upd hw _ (by simp) K.wr h.nd h.bd (by rw [g2]; exact h.hd) (smC_set hnot h.ch) (by rw [g2]; omega) K.pr (.inr (.inr (.inr (.inr (.inr ⟨rfl, h1, h2, by rw [g2]; exact h3, ?_⟩))))) (fun j hj hne q => ?_) (fun e he => ?_), rfl, .inl ⟨rfl, rfl⟩⟩
  · show low32 ((L.set (5 + N + 2 * b) (low32 p.v)).getD (5 + N + 2 * (p.i.toNat - 1)) 0) = low32 p.v
    rw [← hb, gb, hlo]
  · have hnj := hoth j hj hne
    unfold SmS
    rw [g2]
    rcases q with ⟨h1, h2⟩ | ⟨h1, h2, h3, h4, h5, h6⟩ | ⟨h1, h2, h3, h4, h5, h6, h7⟩ | ⟨h1, h2, h3⟩ | ⟨h1, h2, h3, h4⟩ | ⟨h1, h2, h3, h4, h5⟩
    · exact .inl ⟨h1, h2⟩
    · exact .inr (.inl ⟨h1, h2, h3, h4, h5, h6⟩)
    · refine .inr (.inr (.inl ⟨h1, h2, h3, h4, h5, h6, fun q => ?_⟩))
      obtain ⟨t, r, hS, ht⟩ := sm_top h.hd (by rw [← q, ← h5]; omega)
      have : (smP P j).h.toNat - 1 ≠ b := by
        intro hh
        apply hnot
        rw [hS, show b = t by rw [← q, ← h5] at ht; omega]
        exact List.mem_cons_self ..
      rw [go _ this]
      exact h7 q
    · exact .inr (.inr (.inr (.inl ⟨h1, h2, h3⟩)))
    · exact .inr (.inr (.inr (.inr (.inl ⟨h1, h2, h3, h4⟩))))
    · exact .inr (.inr (.inr (.inr (.inr ⟨h1, h2, h3, h4, by rw [go _ (by omega)]; exact h5⟩))))
  · show S.count e + ((P.map (·.i)).set w p.i).count ((e : Int) + 1) = 1
    rw [show p.i = (P.map (·.i))[w]'(by simpa using (show w < P.length by omega)) by rw [smP_i (by omega), hp], List.set_getElem_self]
    exact h.cnt e he
theorem sm25 (hN : 1 ≤ N ∧ N ≤ 8) (hE : 1 ≤ E ∧ E ≤ 16) (hk6 : k ≤ 600) (h : SmI N E k L P S) (hw : w < N) (hp : smP P w = p) (hl : p.ln = 25) : SmO N E k P w p (stackLn (cSm N E) a L p).fin := by
  have hlen := h.len
  have hP := h.nP
  have hs := h.st w hw
  have hq := h.pr w hw
  rw [hp] at hs hq
  obtain ⟨h1, h2, h3, h4⟩ : 1 ≤ p.i ∧ p.i ≤ E ∧ SmV (L.getD 2 0) p.v ∧ low32 (L.getD (5 + N + 2 * (p.i.toNat - 1)) 0) = low32 p.v := by
    rcases hs with ⟨q, _⟩ | ⟨q, _⟩ | ⟨q, _⟩ | ⟨q, _⟩ | ⟨q, _⟩ | ⟨q, h⟩ <;> first | omega | exact h
  obtain ⟨b, hb⟩ : ∃ b, b = p.i.toNat - 1 := ⟨_, rfl⟩
  rw [← hb] at h4
  have hbi : p.i = (b : Int) + 1 := by omega
  have hput : skPut true p = (b : Int) := by
    unfold skPut
    rw [if_pos rfl]
    unfold wrap64
    omega
  have K := (stackLn_keeps (c := cSm N E) (a := a) h.wr hq).fin
  have e1 : stackLn (cSm N E) a L p = sk15 (cSm N E) L p true := by rw [sm_sk 15 (by omega) (by omega)]; rfl
  have hcg : csB L 2 p.v = decide (L.getD 2 0 = p.v) := sm_cs (i := 2) (by omega) _
  by_cases hc : L.getD 2 0 = p.v
  · have hcb : csB L 2 p.v = true := by rw [hcg]; simpa using hc
    have er : (stackLn (cSm N E) a L p).fin = ⟨acc L 3 2 p.v (skNew b p.v), L.set 2 (skNew b p.v), { p with ln := 0 }, 1, true⟩ := by
      rw [e1]
      unfold sk15 skSwap
      rw [hput]
      simp [skH, hcb, Res.fin, csL_yes hcb]
    rw [er] at K ⊢
    obtain ⟨hnot, hoth⟩ := sm_held h hw (e := b) (by omega) (by rw [hp]; exact hbi)
    have hver := h.ver
    have hwrv := hq.v
    obtain ⟨k1, k2⟩ := skNew_parts (b : Int) p.v (by omega) (by rw [hc] at hver; omega)
    have g2 : ((L.set 2 (skNew b p.v)).getD 2 0) = skNew b p.v := by rw [smset, if_pos ⟨rfl, by omega⟩]
    refine ⟨{ pz with ln := 20 }, b :: S, h.upd hw _ (by simp) K.wr (List.nodup_cons.2 ⟨hnot, h.nd⟩) (fun x q => ?_) (by rw [g2, k1]; rfl) ⟨?_, smC_set2 h.ch⟩ (by rw [g2, k2, ← hc]; omega) prz20 (.inl ⟨rfl, rfl⟩) (fun j _ _ q => sm_swap (j := j) (by omega) (by rw [k2, hc]) q) ?_, rfl, .inr (.inr (.inr ⟨rfl, hl, rfl⟩))⟩
    · rcases List.mem_cons.1 q with rfl | q
      · omega
      · exact h.bd x q
    · rw [smset, if_neg (by omega), h4, ← hc]
      exact h.hd
    · intro e he
      have hcn := h.cnt e he
      have hiw := smP_i (P := P) (w := w) (by omega)
      rw [hp, hbi] at hiw
      have hm : (b : Int) + 1 ∈ P.map (·.i) := by rw [← hiw]; exact List.getElem_mem _
      have hpos := List.count_pos_iff.2 hm
      rw [List.count_set (by simpa using (show w < P.length by omega)), hiw, List.count_cons]
      have e3 : ((0 : Int) == (e : Int) + 1) = false := by simp; omega
      have e4 : ((b : Int) + 1 == (e : Int) + 1) = (b == e) := by
        by_cases q : b = e
        · simp [q]
        · have : (b : Int) + 1 ≠ (e : Int) + 1 := by omega
          rw [beq_eq_false_iff_ne.2 this, beq_eq_false_iff_ne.2 q]
      show List.count e S + (if (b == e) = true then 1 else 0) + (List.count ((e : Int) + 1) (List.map (fun x => x.i) P) - (if ((b : Int) + 1 == (e : Int) + 1) = true then 1 else 0) + (if ((0 : Int) == (e : Int) + 1) = true then 1 else 0)) = 1
      rw [e3, e4]
      by_cases q : b = e
      · subst q
        simp only [beq_self_eq_true, if_true, Bool.false_eq_true, if_false]
        omega
      · simp [q]
        omega
  · have hcb : csB L 2 p.v = false := by rw [hcg]; simpa using hc
    have er : (stackLn (cSm N E) a L p).fin = ⟨acc L 3 2 p.v (skNew b p.v), L, { p with ln := 23 }, 0, true⟩ := by
      rw [e1]
      unfold sk15 skSwap
      rw [hput]
      simp [skH, skLn, hcb, Res.fin, csL_no hcb]
    rw [er] at K ⊢
    exact ⟨_, S, h.same hw _ K.pr (.inr (.inr (.inr (.inl ⟨rfl, h1, h2⟩)))) (by rw [hp]), rfl, .inl ⟨rfl, rfl⟩⟩
theorem sm_pick (hN : 1 ≤ N ∧ N ≤ 8) (hE : 1 ≤ E ∧ E ≤ 16) (hk6 : k ≤ 600) (h : SmI N E k L P S) (hw : w < N) (hp : smP P w = p) : SmO N E k P w p (stackLn (cSm N E) a L p).fin := by
  have hs := h.st w hw
  rw [hp] at hs
  rcases (show p.ln = 20 ∨ p.ln = 21 ∨ p.ln = 22 ∨ p.ln = 23 ∨ p.ln = 24 ∨ p.ln = 25 by rcases hs with hs | hs | hs | hs | hs | hs <;> omega) with q | q | q | q | q | q
  · exact sm20 hN hE h hw hp q
  · exact sm21 hN hE h hw hp q
  · exact sm22 hN hE hk6 h hw hp q
  · exact sm23 hN hE h hw hp q
  · exact sm24 hN hE h hw hp q
  · exact sm25 hN hE hk6 h hw hp q
end
/-- The start. -/
def smOk (N E : Nat) : Bool :=
  let L := firstL (cSm N E)
  decide (L.length = 6 + N + 2 * E) && L.all (fun x => decide (0 ≤ x ∧ x < 18446744073709551616)) && decide (L.getD 2 0 = 1) && (List.range E).all (fun a => decide (low32 (L.getD (5 + N + 2 * a) 0) = if a + 1 < E then (a : Int) + 2 else 0))
theorem sm_all : ∀ (n : Fin 8) (m : Fin 16), smOk (n.val + 1) (m.val + 1) = true := by decide +kernel
theorem smC_range {N E : Nat} {L : List Int} (h : ∀ a, a < E → low32 (L.getD (5 + N + 2 * a) 0) = if a + 1 < E then (a : Int) + 2 else 0) : ∀ m b, b + m = E → smC N L (List.range' b m)
  | 0, _, _ => trivial
  | m + 1, b, hb => by
    rw [List.range'_succ]
    refine ⟨?_, smC_range h m (b + 1) (by omega)⟩
    rw [h b (by omega)]
    cases m with
    | zero => rw [if_neg (by omega)]; rfl
    | succ m => rw [if_pos (by omega), List.range'_succ]; show (b : Int) + 2 = ((b + 1 : Nat) : Int) + 1; omega
theorem sm_start {N E : Nat} (hN : 1 ≤ N ∧ N ≤ 8) (hE : 1 ≤ E ∧ E ≤ 16) : SmI N E 0 (firstL (cSm N E)) (List.replicate N { pz with ln := 20 }) (List.range' 0 E) := by
  have h := sm_all ⟨N - 1, by omega⟩ ⟨E - 1, by omega⟩
  simp only at h
  rw [show N - 1 + 1 = N by omega, show E - 1 + 1 = E by omega] at h
  unfold smOk at h
  simp only [Bool.and_eq_true, decide_eq_true_eq, List.all_eq_true, List.mem_range] at h
  obtain ⟨⟨⟨k1, k2⟩, k3⟩, k4⟩ := h
  have gp : ∀ k, k < N → smP (List.replicate N ({ pz with ln := 20 } : Pl)) k = { pz with ln := 20 } := fun k hk => by
    unfold smP
    rw [List.getD_eq_getElem?_getD, List.getElem?_replicate, if_pos hk]
    rfl
  refine ⟨k1, k2, by simp, List.nodup_range', fun a ha => by simp [List.mem_range'] at ha; omega, ?_, smC_range k4 E 0 (by omega), by rw [k3]; decide, ?_, ?_, ?_⟩
  · rw [k3]
    obtain ⟨m, rfl⟩ : ∃ m, E = m + 1 := ⟨E - 1, by omega⟩
    rw [List.range'_succ]
    rfl
  · intro j hj
    rw [gp j hj]
    exact prz20
  · intro j hj
    rw [gp j hj]
    exact .inl ⟨rfl, rfl⟩
  · intro e he
    have c1 : (List.range' 0 E).count e = 1 := by
      rw [List.Nodup.count List.nodup_range', if_pos (by simp [List.mem_range']; omega)]
    have c2 : ((List.replicate N ({ pz with ln := 20 } : Pl)).map (·.i)).count ((e : Int) + 1) = 0 := by
      rw [List.map_replicate, List.count_replicate]
      have : ((({ pz with ln := 20 } : Pl).i) == (e : Int) + 1) = false := by
        show ((0 : Int) == (e : Int) + 1) = false
        simp
        omega
      rw [this]
      rfl
    rw [c1, c2]
/-- The counts that the law makes. -/
def smA (E : Nat) (f : Nat → Nat) : List Int := (List.range E).map fun j => (f j : Int)
section
variable {E : Nat} {f g : Nat → Nat}
theorem smA_len : (smA E f).length = E := by simp [smA]
theorem smA_get {j : Nat} (h : j < E) : (smA E f)[j]'(by rw [smA_len]; exact h) = (f j : Int) := by simp [smA]
theorem smA_zero : smA E (fun _ => 0) = List.replicate E 0 := by
  apply List.ext_getElem
  · simp [smA]
  · intro j h1 h2
    simp [smA]
theorem smA_congr (h : ∀ j, j < E → f j = g j) : smA E f = smA E g := List.map_congr_left fun j hj => by rw [h j (List.mem_range.1 hj)]
theorem smA_set {a : Nat} (ha : a < E) (hg : ∀ j, j < E → g j = if j = a then f j + 1 else f j) : (smA E f).set a ((f a : Int) + 1) = smA E g := by
  apply List.ext_getElem
  · simp [smA]
  · intro j h1 h2
    have hj : j < E := by simpa [smA] using h2
    rw [smA_get hj, List.getElem_set, hg j hj]
    by_cases e : a = j
    · subst e
      rw [if_pos rfl, if_pos rfl]
      omega
    · rw [if_neg e, if_neg (by omega), smA_get hj]
end
def smF (S : List Nat) (k j : Nat) : Nat := (S.take k).count j
def smG (S : List Nat) (Q : List Int) (k j : Nat) : Nat := S.count j + (Q.take k).count ((j : Int) + 1)
section
variable {S : List Nat} {Q : List Int} {k j : Nat}
theorem smF_zero : smF S 0 j = 0 := by simp [smF]
theorem smF_step (hk : k < S.length) : smF S (k + 1) j = if j = S[k] then smF S k j + 1 else smF S k j := by
  unfold smF
  rw [List.take_add_one, List.getElem?_eq_getElem hk, Option.toList_some, List.count_append, List.count_singleton]
  by_cases e : j = S[k]
  · rw [if_pos e, if_pos (by simp [e])]
  · rw [if_neg e, if_neg (by simp; omega)]
    rfl
theorem smF_end : smF S S.length j = S.count j := by simp [smF]
theorem smG_zero : smG S Q 0 j = S.count j := by simp [smG]
theorem smG_step (hk : k < Q.length) : smG S Q (k + 1) j = if Q[k] = (j : Int) + 1 then smG S Q k j + 1 else smG S Q k j := by
  unfold smG
  rw [List.take_add_one, List.getElem?_eq_getElem hk, Option.toList_some, List.count_append, List.count_singleton]
  by_cases e : Q[k] = (j : Int) + 1
  · rw [if_pos e, if_pos (by simp [e])]
    omega
  · rw [if_neg e, if_neg (by simp; omega)]
    rfl
theorem smG_end (hk : Q.length = k) : smG S Q k j = S.count j + Q.count ((j : Int) + 1) := by simp [smG, ← hk]
theorem smF_le : smF S k j ≤ S.count j := (List.take_sublist ..).count_le _
theorem smG_le : smG S Q k j ≤ S.count j + Q.count ((j : Int) + 1) := Nat.add_le_add_left ((List.take_sublist ..).count_le _) _
end
theorem SmI.hand {N E k : Nat} {L : List Int} {P : List Pl} {S : List Nat} (h : SmI N E k L P S) {j : Nat} (hj : j < N) : (smP P j).i = 0 ∨ (1 ≤ (smP P j).i ∧ (smP P j).i ≤ E) := by
  rcases h.st j hj with ⟨_, h2⟩ | ⟨_, h2, _⟩ | ⟨_, h2, _⟩ | ⟨_, h2, h3⟩ | ⟨_, h2, h3, _⟩ | ⟨_, h2, h3, _⟩ <;> first | exact .inl h2 | exact .inr ⟨h2, h3⟩
end Go.Proofs.Ytblkfbbdeodpjaa.Me
