/- EpochHolds: a pick keeps what is known. -/
import Derived.Test.YtblkfbbdeodpjaaEhNum
namespace Go.Proofs.Ytblkfbbdeodpjaa.Me
open Go Go.RowKit Go.Proofs.Ytblkfbbdeodpjaa.Gro Go.Proofs.Ytblkfbbdeodpjaa.Own Go.Proofs.Ytblkfbbdeodpjaa.Wd Go.Proofs.Ytblkfbbdeodpjaa.Ap Go.Proofs.Ytblkfbbdeodpjaa.Pl Go.Proofs.Ytblkfbbdeodpjaa.Wo
set_option linter.unusedVariables false
set_option linter.unusedSimpArgs false
section
variable {N i w : Nat} {L : List Int} {P : List Pl} {I : List Bool} {a : Acc} {x : Pl}
theorem gL_ld (h : 0 < L.length) : ldV L 0 = gL L := by
  have := ldV_at (L := L) (i := 0) h
  rw [show ((0 : Nat) : Int) = 0 from rfl] at this
  rw [this]
  unfold gL
  rw [List.getD_eq_getElem?_getD, List.getElem?_eq_getElem h]
  rfl
theorem aL_ld (hN : 1 ≤ N ∧ N ≤ 8) {k : Nat} (hk : k < N) (hl : 3 + N < L.length) : ldV L (aAnn (cEh N) (k : Int)) = aL L k := by
  rw [cEh_ann hN hk, ldV_at (by omega)]
  unfold aL
  rw [List.getD_eq_getElem?_getD, List.getElem?_eq_getElem (by omega)]
  rfl
theorem aL_st (hN : 1 ≤ N ∧ N ≤ 8) {k : Nat} (hk : k < N) (hl : 3 + N < L.length) (v : Int) : stL L (aAnn (cEh N) (k : Int)) v = L.set (3 + k) v := by
  rw [cEh_ann hN hk, stL_at (by omega)]
theorem gL_setA (k : Nat) (v : Int) : gL (L.set (3 + k) v) = gL L := by
  unfold gL
  rw [gset, if_neg (by omega)]
theorem aL_setA (k m : Nat) (v : Int) (hl : 3 + k < L.length) : aL (L.set (3 + k) v) m = if m = k then v else aL L m := by
  unfold aL
  rw [gset]
  by_cases h : m = k
  · rw [if_pos ⟨by omega, hl⟩, if_pos h]
  · rw [if_neg (by omega), if_neg h]
theorem gL_set0 (v : Int) (h : 0 < L.length) : gL (L.set 0 v) = v := by
  unfold gL
  rw [gset, if_pos ⟨rfl, h⟩]
theorem aL_set0 (v : Int) (m : Nat) : aL (L.set 0 v) m = aL L m := by
  unfold aL
  rw [gset, if_neg (by omega)]
theorem an_true {e : Int} (h : 0 ≤ e ∧ e ≤ 1000) : Pk.an e true = 2 * e + 1 := by unfold Pk.an; simp; omega
theorem an_false {e : Int} (h : 0 ≤ e ∧ e ≤ 1000) : Pk.an e false = 2 * e := by unfold Pk.an; simp; omega
theorem iset (hn : w < I.length) : I.set w (iL I w) = I := by
  apply List.ext_getElem?
  intro k
  rw [List.getElem?_set]
  by_cases h : w = k
  · subst h
    rw [if_pos rfl, if_pos hn]
    unfold iL
    rw [List.getD_eq_getElem?_getD, List.getElem?_eq_getElem hn]
    rfl
  · rw [if_neg h]
/-- A line that only loads and changes the state. -/
theorem EI.quiet (h : EI N i L P I) (hw : w < N) (p' : Pl) (b' : Bool) (f1 : PR p') (f2 : p'.ep ≤ gL L) (f3 : p'.ln = 0 ∨ p'.ln = 2 ∨ p'.ln = 3 ∨ p'.ln = 71 ∨ p'.ln = 72)
    (f4 : b' = true → gL L ≤ p'.ep + 1 ∧ aL L w = 2 * p'.ep + 1 ∧ (p'.ln = 0 ∨ p'.ln = 71 ∨ p'.ln = 72))
    (f5 : p'.ln = 3 → aL L w = 2 * p'.ep + 1)
    (f6 : b' = true → (iL I w = true ∧ p'.ep = (pL P w).ep) ∨ gL L ≤ p'.ep)
    (f7 : p'.ln = 71 → 0 ≤ p'.j ∧ p'.j < N ∧ p'.v ≤ gL L ∧ (∀ m : Nat, m < N → m ≠ w → (m : Int) < p'.j → iL I m = true → p'.v ≤ (pL P m).ep) ∧ ((w : Int) < p'.j → b' = true → p'.v ≤ p'.ep))
    (f8 : p'.ln = 72 → p'.v ≤ gL L ∧ (∀ m : Nat, m < N → m ≠ w → iL I m = true → p'.v ≤ (pL P m).ep) ∧ (b' = true → p'.v ≤ p'.ep)) : EI N (i + 1) L (P.set w p') (I.set w b') :=
  h.upd hw p' b' rfl h.wr ⟨Int.le_refl _, by have := h.g; omega⟩ (fun _ _ _ => rfl) (fun k hk _ hi => (h.ins k hk hi).1) f1 f2 f3 f4 f5 f6 f7 f8
def Eh (N i w : Nat) (L : List Int) (P : List Pl) (I : List Bool) (x : Pl) (a : Acc) (b' : Bool) : Prop :=
  ((epochLn (cEh N) a L x w).fin).ok = true ∧ EI N (i + 1) ((epochLn (cEh N) a L x w).fin).L (P.set w ((epochLn (cEh N) a L x w).fin).p) (I.set w b')
theorem eh1 (h : EI N i L P I) (hN : 1 ≤ N ∧ N ≤ 8) (hw : w < N) (hb : iL I w = false) : Eh N i w L P I { pL P w with ln := 1 } a false ∧ ((epochLn (cEh N) a L { pL P w with ln := 1 } w).fin).way = 0 := by
  have e : (epochLn (cEh N) a L { pL P w with ln := 1 } w).fin = ⟨acc L 1 0 0 0, L, { pL P w with ep := gL L, ln := 2 }, 0, true⟩ := by
    unfold epochLn
    simp only [if_true]
    unfold ep1
    rw [Res.fin0 rfl, gL_ld (by have := h.len; omega)]
  have hp := (h.pr w hw).1
  have hg := h.g
  have hgr : 0 ≤ gL L ∧ gL L < 18446744073709551616 := by rw [← gL_ld (by have := h.len; omega)]; exact ldV_wr h.wr 0
  unfold Eh
  rw [e]
  refine ⟨⟨rfl, h.quiet hw _ _ ⟨hgr, hp.h, hp.n, hp.v, hp.u, hp.g, hp.t⟩ (Int.le_refl _) (.inr (.inl rfl)) (fun q => by cases q) (fun q => ?_) (fun q => by cases q) (fun q => ?_) (fun q => ?_)⟩, rfl⟩
  · simp only at q; omega
  · simp only at q; omega
  · simp only at q; omega
theorem eh70 (h : EI N i L P I) (hN : 1 ≤ N ∧ N ≤ 8) (hw : w < N) (hl : (pL P w).ln = 0) : Eh N i w L P I { pL P w with ln := 70 } a (iL I w) ∧ ((epochLn (cEh N) a L { pL P w with ln := 70 } w).fin).way = 0 := by
  have e : (epochLn (cEh N) a L { pL P w with ln := 70 } w).fin = ⟨acc L 1 0 0 0, L, { pL P w with v := gL L, j := 0, ln := 71 }, 0, true⟩ := by
    unfold epochLn
    simp
    unfold ep70
    rw [Res.fin0 rfl, gL_ld (by have := h.len; omega)]
  have hp := h.pr w hw
  have hgr : 0 ≤ gL L ∧ gL L < 18446744073709551616 := by rw [← gL_ld (by have := h.len; omega)]; exact ldV_wr h.wr 0
  unfold Eh
  rw [e]
  refine ⟨⟨rfl, h.quiet hw _ _ ⟨hp.1.ep, hp.1.h, hp.1.n, hgr, hp.1.u, hp.1.g, hp.1.t⟩ hp.2 (.inr (.inr (.inr (.inl rfl)))) (fun q => ?_) (fun q => ?_) (fun q => .inl ⟨q, rfl⟩) (fun q => ?_) (fun q => ?_)⟩, rfl⟩
  · have := h.ins w hw q
    exact ⟨this.1, this.2.1, .inr (.inl rfl)⟩
  · simp only at q; omega
  · refine ⟨Int.le_refl _, by simp only; omega, Int.le_refl _, fun m _ _ hm _ => ?_, fun hm => ?_⟩
    · simp only at hm; omega
    · simp only at hm; omega
  · simp only at q; omega
/-- A line that stores into the worker's own announcement. -/
theorem EI.own (h : EI N i L P I) (hN : 1 ≤ N ∧ N ≤ 8) (hw : w < N) (v : Int) (hv : 0 ≤ v ∧ v < 18446744073709551616) (p' : Pl) (f1 : PR p') (f2 : p'.ep ≤ gL L) (f3 : p'.ln = 0 ∨ p'.ln = 3)
    (f5 : p'.ln = 3 → v = 2 * p'.ep + 1) : EI N (i + 1) (L.set (3 + w) v) (P.set w p') (I.set w false) := by
  have hlen := h.len
  refine h.upd hw p' false (by simp) (wr_set h.wr _ hv.1 hv.2) ?_ (fun k hk hkw => ?_) (fun k hk _ hi => ?_) f1 (by rw [gL_setA]; exact f2) (by omega) (fun q => by cases q) (fun q => ?_) (fun q => by cases q) (fun q => by omega) (fun q => by omega)
  · rw [gL_setA]; have := h.g; omega
  · rw [aL_setA _ _ _ (by omega), if_neg hkw]
  · rw [gL_setA]; exact (h.ins k hk hi).1
  · rw [aL_setA _ _ _ (by omega), if_pos rfl]; exact f5 q
theorem eh90 (h : EI N i L P I) (hN : 1 ≤ N ∧ N ≤ 8) (hi : i ≤ 800) (hw : w < N) : Eh N i w L P I { pL P w with ln := 90 } a false ∧ ((epochLn (cEh N) a L { pL P w with ln := 90 } w).fin).way = 1 := by
  have hp := h.pr w hw
  have hg := h.g
  have e : (epochLn (cEh N) a L { pL P w with ln := 90 } w).fin = ⟨acc L 2 (aAnn (cEh N) w) (Pk.an (pL P w).ep false) 0, L.set (3 + w) (2 * (pL P w).ep), { pL P w with ln := 0 }, 1, true⟩ := by
    unfold epochLn
    simp
    unfold ep90
    simp only
    rw [Res.fin1 (show (1 : Int) ≠ 0 by decide)]
    simp only
    rw [aL_st hN hw h.len, an_false ⟨hp.1.ep.1, by omega⟩]
  have he := hp.1.ep
  unfold Eh
  rw [e]
  exact ⟨⟨rfl, h.own hN hw _ (by omega) _ ⟨hp.1.ep, hp.1.h, hp.1.n, hp.1.v, hp.1.u, hp.1.g, hp.1.t⟩ hp.2 (.inl rfl) (fun q => by simp only at q; omega)⟩, rfl⟩
theorem eh2 (h : EI N i L P I) (hN : 1 ≤ N ∧ N ≤ 8) (hi : i ≤ 800) (hw : w < N) (hl : (pL P w).ln = 2) : Eh N i w L P I (pL P w) a (iL I w) ∧ ((epochLn (cEh N) a L (pL P w) w).fin).way = 0 := by
  have hp := h.pr w hw
  have hg := h.g
  have he := hp.1.ep
  have hb : iL I w = false := by
    cases hq : iL I w with
    | false => rfl
    | true => have := (h.ins w hw hq).2.2; omega
  have e : (epochLn (cEh N) a L (pL P w) w).fin = ⟨acc L 2 (aAnn (cEh N) w) (Pk.an (pL P w).ep true) 0, L.set (3 + w) (2 * (pL P w).ep + 1), { pL P w with ln := 3 }, 0, true⟩ := by
    unfold epochLn
    rw [if_neg (by omega), if_pos hl]
    unfold ep2
    rw [Res.fin0 rfl, aL_st hN hw h.len, an_true ⟨hp.1.ep.1, by omega⟩]
  unfold Eh
  rw [e, hb]
  exact ⟨⟨rfl, h.own hN hw _ (by omega) _ ⟨hp.1.ep, hp.1.h, hp.1.n, hp.1.v, hp.1.u, hp.1.g, hp.1.t⟩ hp.2 (.inr rfl) (fun q => rfl)⟩, rfl⟩
theorem eh3y (h : EI N i L P I) (hN : 1 ≤ N ∧ N ≤ 8) (hw : w < N) (hl : (pL P w).ln = 3) (hs : gL L = (pL P w).ep) : Eh N i w L P I (pL P w) a true ∧ ((epochLn (cEh N) a L (pL P w) w).fin).way = 1 := by
  have hp := h.pr w hw
  have e : (epochLn (cEh N) a L (pL P w) w).fin = ⟨acc L 1 0 0 0, L, { pL P w with ln := 0 }, 1, true⟩ := by
    unfold epochLn
    rw [if_neg (by omega), if_neg (by omega), if_pos hl]
    unfold ep3
    rw [gL_ld (by have := h.len; omega), if_pos hs, Res.fin1 (show (1 : Int) ≠ 0 by decide)]
  unfold Eh
  rw [e]
  refine ⟨⟨rfl, h.quiet hw _ _ ⟨hp.1.ep, hp.1.h, hp.1.n, hp.1.v, hp.1.u, hp.1.g, hp.1.t⟩ hp.2 (.inl rfl) (fun _ => ⟨by simp only; omega, h.l3 w hw hl, .inl rfl⟩) (fun q => ?_) (fun _ => .inr (by simp only; omega)) (fun q => ?_) (fun q => ?_)⟩, rfl⟩
  · simp only at q; omega
  · simp only at q; omega
  · simp only at q; omega
theorem eh3n (h : EI N i L P I) (hN : 1 ≤ N ∧ N ≤ 8) (hw : w < N) (hl : (pL P w).ln = 3) (hs : gL L ≠ (pL P w).ep) : Eh N i w L P I (pL P w) a (iL I w) ∧ ((epochLn (cEh N) a L (pL P w) w).fin).way = 0 := by
  have hp := h.pr w hw
  have hb : iL I w = false := by
    cases hq : iL I w with
    | false => rfl
    | true => have := (h.ins w hw hq).2.2; omega
  have hgr : 0 ≤ gL L ∧ gL L < 18446744073709551616 := by rw [← gL_ld (by have := h.len; omega)]; exact ldV_wr h.wr 0
  have e : (epochLn (cEh N) a L (pL P w) w).fin = ⟨acc L 1 0 0 0, L, { pL P w with ep := gL L, ln := 2 }, 0, true⟩ := by
    unfold epochLn
    rw [if_neg (by omega), if_neg (by omega), if_pos hl]
    unfold ep3
    rw [gL_ld (by have := h.len; omega), if_neg hs, Res.fin0 rfl]
  unfold Eh
  rw [e, hb]
  refine ⟨⟨rfl, h.quiet hw _ _ ⟨hgr, hp.1.h, hp.1.n, hp.1.v, hp.1.u, hp.1.g, hp.1.t⟩ (Int.le_refl _) (.inr (.inl rfl)) (fun q => by cases q) (fun q => ?_) (fun q => by cases q) (fun q => ?_) (fun q => ?_)⟩, rfl⟩
  · simp only at q; omega
  · simp only at q; omega
  · simp only at q; omega
theorem eh71 (h : EI N i L P I) (hN : 1 ≤ N ∧ N ≤ 8) (hw : w < N) (hl : (pL P w).ln = 71) : Eh N i w L P I (pL P w) a (iL I w) ∧ ((epochLn (cEh N) a L (pL P w) w).fin).way ≠ 1 := by
  have hp := h.pr w hw
  obtain ⟨j0, j1, hv, hall⟩ := h.l71 w hw hl
  obtain ⟨j, hj⟩ : ∃ j : Nat, (pL P w).j = (j : Int) := ⟨(pL P w).j.toNat, by omega⟩
  have hjN : j < N := by omega
  have e0 : epochLn (cEh N) a L (pL P w) w = ep71 (cEh N) L (pL P w) := by
    unfold epochLn
    rw [if_neg (by omega), if_neg (by omega), if_neg (by omega), if_neg (by omega), if_neg (by omega), if_pos hl]
  have ea : ldV L (aAnn (cEh N) (pL P w).j) = aL L j := by rw [hj]; exact aL_ld hN hjN h.len
  have hins : ∀ q : Pl, q.ep = (pL P w).ep → (q.ln = 0 ∨ q.ln = 71 ∨ q.ln = 72) → iL I w = true → gL L ≤ q.ep + 1 ∧ aL L w = 2 * q.ep + 1 ∧ (q.ln = 0 ∨ q.ln = 71 ∨ q.ln = 72) := fun q h1 h2 h3 => by
    have := h.ins w hw h3
    rw [h1]
    exact ⟨this.1, this.2.1, h2⟩
  unfold Eh
  rw [e0]
  unfold ep71
  rw [ea]
  by_cases ho : epOther (aL L j) (pL P w).v = true
  · rw [if_pos ho, Res.fin1 (show (2 : Int) ≠ 0 by decide)]
    refine ⟨⟨rfl, h.quiet hw _ _ ⟨hp.1.ep, hp.1.h, hp.1.n, hp.1.v, hp.1.u, hp.1.g, hp.1.t⟩ hp.2 (.inl rfl) (hins _ rfl (.inl rfl)) (fun q => ?_) (fun q => .inl ⟨q, rfl⟩) (fun q => ?_) (fun q => ?_)⟩, by simp⟩
    · simp only at q; omega
    · simp only at q; omega
    · simp only at q; omega
  · rw [if_neg ho, Res.fin0 rfl]
    have hno : iL I j = true → (pL P w).v ≤ (pL P j).ep := fun hi => by
      have h3 := (h.ins j hjN hi).2.1
      unfold epOther at ho
      rw [h3] at ho
      simp at ho
      omega
    have hww : wrap64 ((cEh N).ww - 1) = (N : Int) - 1 := by simp only; exact IntWalk.wrap64_in _ (by omega)
    have hjw : wrap64 ((pL P w).j + 1) = (j : Int) + 1 := by rw [hj]; exact IntWalk.wrap64_in _ (by omega)
    have hseen : ∀ m : Nat, m < N → (m : Int) < (j : Int) + 1 → iL I m = true → (pL P w).v ≤ (pL P m).ep := fun m hm hmj hi => by
      by_cases hmj2 : m = j
      · subst hmj2; exact hno hi
      · exact hall m hm (by omega) hi
    rw [hww, hjw, hj]
    by_cases hlast : (N : Int) - 1 ≤ (j : Int)
    · rw [if_pos hlast]
      refine ⟨⟨rfl, h.quiet hw _ _ ⟨hp.1.ep, hp.1.h, hp.1.n, hp.1.v, hp.1.u, hp.1.g, hp.1.t⟩ hp.2 (.inr (.inr (.inr (.inr rfl)))) (hins _ rfl (.inr (.inr rfl))) (fun q => ?_) (fun q => .inl ⟨q, rfl⟩) (fun q => ?_) (fun q => ?_)⟩, by simp⟩
      · simp only at q; omega
      · simp only at q; omega
      · exact ⟨hv, fun m hm _ hi => hseen m hm (by omega) hi, fun hi => hseen w hw (by omega) hi⟩
    · rw [if_neg hlast]
      refine ⟨⟨rfl, h.quiet hw _ _ ⟨hp.1.ep, hp.1.h, hp.1.n, hp.1.v, hp.1.u, hp.1.g, hp.1.t⟩ hp.2 (.inr (.inr (.inr (.inl rfl)))) (hins _ rfl (.inr (.inl rfl))) (fun q => ?_) (fun q => .inl ⟨q, rfl⟩) (fun q => ?_) (fun q => ?_)⟩, by simp⟩
      · simp only at q; omega
      · exact ⟨by simp only; omega, by simp only; omega, hv, fun m hm _ hmj hi => hseen m hm hmj hi, fun hmj hi => hseen w hw hmj hi⟩
      · simp only at q; omega
theorem eh72 (h : EI N i L P I) (hN : 1 ≤ N ∧ N ≤ 8) (hi : i ≤ 800) (hw : w < N) (hl : (pL P w).ln = 72) : Eh N i w L P I (pL P w) a (iL I w) := by
  have hp := h.pr w hw
  have hg := h.g
  have hlen := h.len
  obtain ⟨hv, hall⟩ := h.l72 w hw hl
  have e0 : epochLn (cEh N) a L (pL P w) w = ep72 L (pL P w) := by
    unfold epochLn
    rw [if_neg (by omega), if_neg (by omega), if_neg (by omega), if_neg (by omega), if_neg (by omega), if_neg (by omega), if_pos hl]
  have hcs : csB L 0 (pL P w).v = decide (gL L = (pL P w).v) := by
    have h0 : 0 < L.length := by omega
    have := csB_at h0 (pL P w).v
    rw [show ((0 : Nat) : Int) = 0 from rfl] at this
    rw [this]
    unfold gL
    rw [List.getD_eq_getElem?_getD, List.getElem?_eq_getElem h0]
    rfl
  have hins : iL I w = true → aL L w = 2 * (pL P w).ep + 1 := fun q => (h.ins w hw q).2.1
  unfold Eh
  rw [e0]
  unfold ep72
  by_cases hc : gL L = (pL P w).v
  · have hb : csB L 0 (pL P w).v = true := by rw [hcs]; simp [hc]
    have hwr : IntKind.u64.wrap ((pL P w).v + 1) = (pL P w).v + 1 := by rw [IntKind.wrap_u64]; omega
    rw [if_pos hb, Res.fin1 (show (1 : Int) ≠ 0 by decide)]
    simp only
    rw [csL_yes hb, show (0 : Int).toNat = 0 from rfl, hwr]
    refine ⟨trivial, h.upd hw _ _ (by simp) (wr_set h.wr _ (by omega) (by omega)) ?_ (fun k _ _ => aL_set0 _ _) (fun k hk _ hi => ?_) ⟨hp.1.ep, hp.1.h, hp.1.n, hp.1.v, hp.1.u, hp.1.g, hp.1.t⟩ ?_ (.inl rfl) (fun q => ?_) (fun q => ?_) (fun q => .inl ⟨q, rfl⟩) (fun q => ?_) (fun q => ?_)⟩
    · rw [gL_set0 _ (by omega)]; omega
    · rw [gL_set0 _ (by omega)]
      have := hall k hk hi
      omega
    · rw [gL_set0 _ (by omega)]; simp only; omega
    · rw [gL_set0 _ (by omega), aL_set0]
      have := hall w hw q
      exact ⟨by simp only; omega, hins q, .inl rfl⟩
    · simp only at q; omega
    · simp only at q; omega
    · simp only at q; omega
  · have hb : csB L 0 (pL P w).v = false := by rw [hcs]; simp [hc]
    rw [if_neg (by simp [hb]), Res.fin1 (show (2 : Int) ≠ 0 by decide)]
    simp only
    rw [csL_no hb]
    refine ⟨trivial, h.quiet hw _ _ ⟨hp.1.ep, hp.1.h, hp.1.n, hp.1.v, hp.1.u, hp.1.g, hp.1.t⟩ hp.2 (.inl rfl) (fun q => ⟨(h.ins w hw q).1, hins q, .inl rfl⟩) (fun q => ?_) (fun q => .inl ⟨q, rfl⟩) (fun q => ?_) (fun q => ?_)⟩
    · simp only at q; omega
    · simp only at q; omega
    · simp only at q; omega
end
end Go.Proofs.Ytblkfbbdeodpjaa.Me
