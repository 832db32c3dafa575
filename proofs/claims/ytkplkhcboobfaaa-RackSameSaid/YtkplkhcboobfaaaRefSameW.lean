/- The reference's Same, end by end (made by gensame4.py). -/
import Derived.Test.YtkplkhcboobfaaaRefSameA
import Derived.Test.YtkplkhcboobfaaaRefSameB
import Derived.Test.YtkplkhcboobfaaaRefSameC
import Derived.Test.YtkplkhcboobfaaaRefSameNo
import Derived.Test.YtkplkhcboobfaaaSameTrue
namespace Go.Proofs.Ytkplkhcboobfaaa.Wo
open Go Go.RowKit Go.Proofs.Ytkplkhcboobfaaa.Gro Go.Proofs.Ytkplkhcboobfaaa.Own Go.Proofs.Ytkplkhcboobfaaa.Wd Go.Proofs.Ytkplkhcboobfaaa.Ap Go.Proofs.Ytkplkhcboobfaaa.Pl
set_option linter.unusedVariables false
set_option linter.unusedSimpArgs false
theorem plainEq_split {p q : Pl} (h : plainEq p q) : q = { p with t0 := q.t0, t1 := q.t1, t2 := q.t2 } := by
  obtain ⟨_, _, _, _, _, _, _, _, _, _, _, _, _, _, _, _, _, _, _, _, _, _, _, _, _, _, _⟩ := p
  obtain ⟨_, _, _, _, _, _, _, _, _, _, _, _, _, _, _, _, _, _, _, _, _, _, _, _, _, _, _⟩ := q
  simp only [plainEq] at h
  simp only [Pl.mk.injEq]
  simp [h]
theorem plainEq_self (p : Pl) : plainEq p p := by simp [plainEq]
theorem refSame_go (pp : Pl) (s0 s1 s2 : Int) (a1 a2 a3 a4 a5 a6 b1 b2 b3 b4 b5 b6 : Sl) (x y : St) (w : World) (ha : Lies w ⟨pp, a1, a2, a3, a4, a5, a6⟩ x) (hb : Lies w ⟨{ pp with t0 := s0, t1 := s1, t2 := s2 }, b1, b2, b3, b4, b5, b6⟩ y) :
    Calls Try.prog 32 #[wv ⟨pp, a1, a2, a3, a4, a5, a6⟩, wv ⟨{ pp with t0 := s0, t1 := s1, t2 := s2 }, b1, b2, b3, b4, b5, b6⟩] w fun e w' => e = .returned (.bool (decide (x = y))) ∧ Below w.heap.size w w' := by
  have HD : x = y → pp = { pp with t0 := s0, t1 := s1, t2 := s2 } := fun e => (show pp = x.p from ha.p).trans ((congrArg St.p e).trans (show y.p = { pp with t0 := s0, t1 := s1, t2 := s2 } from hb.p.symm))
  by_cases qt0 : pp.t0 = s0
  rotate_left
  · rw [decide_eq_false (fun e => qt0 (congrArg Pl.t0 (HD e)))]
    exact refSame_t0 pp s0 s1 s2 a1 a2 a3 a4 a5 a6 b1 b2 b3 b4 b5 b6 x y w ha hb  qt0
  by_cases ql0 : x.l0 = y.l0
  rotate_left
  · rw [decide_eq_false (fun e => ql0 (by rw [e]))]
    exact refSame_l0 pp s0 s1 s2 a1 a2 a3 a4 a5 a6 b1 b2 b3 b4 b5 b6 x y w ha hb qt0 ql0
  by_cases qt1 : pp.t1 = s1
  rotate_left
  · rw [decide_eq_false (fun e => qt1 (congrArg Pl.t1 (HD e)))]
    exact refSame_t1 pp s0 s1 s2 a1 a2 a3 a4 a5 a6 b1 b2 b3 b4 b5 b6 x y w ha hb qt0 ql0 qt1
  by_cases ql1 : x.l1 = y.l1
  rotate_left
  · rw [decide_eq_false (fun e => ql1 (by rw [e]))]
    exact refSame_l1 pp s0 s1 s2 a1 a2 a3 a4 a5 a6 b1 b2 b3 b4 b5 b6 x y w ha hb qt0 ql0 qt1 ql1
  by_cases qt2 : pp.t2 = s2
  rotate_left
  · rw [decide_eq_false (fun e => qt2 (congrArg Pl.t2 (HD e)))]
    exact refSame_t2 pp s0 s1 s2 a1 a2 a3 a4 a5 a6 b1 b2 b3 b4 b5 b6 x y w ha hb qt0 ql0 qt1 ql1 qt2
  by_cases ql2 : x.l2 = y.l2
  rotate_left
  · rw [decide_eq_false (fun e => ql2 (by rw [e]))]
    exact refSame_l2 pp s0 s1 s2 a1 a2 a3 a4 a5 a6 b1 b2 b3 b4 b5 b6 x y w ha hb qt0 ql0 qt1 ql1 qt2 ql2
  by_cases qrk : x.rk = y.rk
  rotate_left
  · rw [decide_eq_false (fun e => qrk (by rw [e]))]
    exact refSame_rk pp s0 s1 s2 a1 a2 a3 a4 a5 a6 b1 b2 b3 b4 b5 b6 x y w ha hb qt0 ql0 qt1 ql1 qt2 ql2 qrk
  by_cases qhl : x.hl = y.hl
  rotate_left
  · rw [decide_eq_false (fun e => qhl (by rw [e]))]
    exact refSame_hl pp s0 s1 s2 a1 a2 a3 a4 a5 a6 b1 b2 b3 b4 b5 b6 x y w ha hb qt0 ql0 qt1 ql1 qt2 ql2 qrk qhl
  by_cases qrd : x.rd = y.rd
  rotate_left
  · rw [decide_eq_false (fun e => qrd (by rw [e]))]
    exact refSame_rd pp s0 s1 s2 a1 a2 a3 a4 a5 a6 b1 b2 b3 b4 b5 b6 x y w ha hb qt0 ql0 qt1 ql1 qt2 ql2 qrk qhl qrd
  subst qt0 qt1 qt2
  have e : y = x := by
    have hp : x.p = y.p := (show x.p = pp from ha.p.symm).trans (show pp = y.p from hb.p)
    obtain ⟨_, _, _, _, _, _, _⟩ := x
    obtain ⟨_, _, _, _, _, _, _⟩ := y
    simp_all
  subst e
  rw [decide_eq_true rfl]
  exact refSame_true pp a1 a2 a3 a4 a5 a6 b1 b2 b3 b4 b5 b6 y w ha hb
/-- The reference's Same, at two arbitrary states. -/
theorem refSameD {s t : Wk} {x y : St} {w : World} (ha : Lies w s x) (hb : Lies w t y) : Calls Try.prog 32 #[wv s, wv t] w fun e w' => e = .returned (.bool (decide (x = y))) ∧ Below w.heap.size w w' := by
  obtain ⟨p1, a1, a2, a3, a4, a5, a6⟩ := s
  obtain ⟨p2, b1, b2, b3, b4, b5, b6⟩ := t
  by_cases h : plainEq p1 p2
  · obtain ⟨s0, s1, s2, rfl⟩ : ∃ s0 s1 s2, p2 = { p1 with t0 := s0, t1 := s1, t2 := s2 } := ⟨_, _, _, plainEq_split h⟩
    exact refSame_go p1 s0 s1 s2 a1 a2 a3 a4 a5 a6 b1 b2 b3 b4 b5 b6 x y w ha hb
  · rw [decide_eq_false (fun e => h (by
      have hp : p1 = p2 := (show p1 = x.p from ha.p).trans ((congrArg St.p e).trans (show y.p = p2 from hb.p.symm))
      rw [hp]; exact plainEq_self _))]
    exact refSame_plain p1 p2 h a1 a2 a3 a4 a5 a6 b1 b2 b3 b4 b5 b6 w
end Go.Proofs.Ytkplkhcboobfaaa.Wo
