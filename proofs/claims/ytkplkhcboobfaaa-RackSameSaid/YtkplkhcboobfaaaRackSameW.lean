/- rack.Same, end by end (made by gensame3.py). -/
import Derived.Test.YtkplkhcboobfaaaSameA
import Derived.Test.YtkplkhcboobfaaaSameB
import Derived.Test.YtkplkhcboobfaaaSameC
namespace Go.Proofs.Ytkplkhcboobfaaa.Wo
open Go Go.RowKit Go.Proofs.Ytkplkhcboobfaaa.Gro Go.Proofs.Ytkplkhcboobfaaa.Own Go.Proofs.Ytkplkhcboobfaaa.Wd Go.Proofs.Ytkplkhcboobfaaa.Ap Go.Proofs.Ytkplkhcboobfaaa.Pl
set_option linter.unusedVariables false
set_option linter.unusedSimpArgs false
theorem rackSame_go (pp qq : Pl) (a1 a2 a3 a4 a5 a6 b1 b2 b3 b4 b5 b6 : Sl) (x y : St) (w : World) (ha : Lies w ⟨pp, a1, a2, a3, a4, a5, a6⟩ x) (hb : Lies w ⟨qq, b1, b2, b3, b4, b5, b6⟩ y) :
    Calls Try.prog 31 #[wv ⟨pp, a1, a2, a3, a4, a5, a6⟩, wv ⟨qq, b1, b2, b3, b4, b5, b6⟩] w fun e w' => e = .returned (.bool (decide (x = y))) ∧ Below w.heap.size w w' := by
  have HD : x = y → pp = qq := fun e => (show pp = x.p from ha.p).trans ((congrArg St.p e).trans (show y.p = qq from hb.p.symm))
  have HP : pp = qq → x.p = y.p := fun e => (show x.p = pp from ha.p.symm).trans (e.trans (show qq = y.p from hb.p))
  by_cases qt0 : pp.t0 = qq.t0
  rotate_left
  · rw [decide_eq_false (fun e => qt0 (by rw [HD e]))]
    exact rackSame_t0 pp qq a1 a2 a3 a4 a5 a6 b1 b2 b3 b4 b5 b6 x y w ha hb  qt0
  by_cases ql0 : x.l0 = y.l0
  rotate_left
  · rw [decide_eq_false (fun e => ql0 (by rw [e]))]
    exact rackSame_l0 pp qq a1 a2 a3 a4 a5 a6 b1 b2 b3 b4 b5 b6 x y w ha hb qt0 ql0
  by_cases qt1 : pp.t1 = qq.t1
  rotate_left
  · rw [decide_eq_false (fun e => qt1 (by rw [HD e]))]
    exact rackSame_t1 pp qq a1 a2 a3 a4 a5 a6 b1 b2 b3 b4 b5 b6 x y w ha hb qt0 ql0 qt1
  by_cases ql1 : x.l1 = y.l1
  rotate_left
  · rw [decide_eq_false (fun e => ql1 (by rw [e]))]
    exact rackSame_l1 pp qq a1 a2 a3 a4 a5 a6 b1 b2 b3 b4 b5 b6 x y w ha hb qt0 ql0 qt1 ql1
  by_cases qt2 : pp.t2 = qq.t2
  rotate_left
  · rw [decide_eq_false (fun e => qt2 (by rw [HD e]))]
    exact rackSame_t2 pp qq a1 a2 a3 a4 a5 a6 b1 b2 b3 b4 b5 b6 x y w ha hb qt0 ql0 qt1 ql1 qt2
  by_cases ql2 : x.l2 = y.l2
  rotate_left
  · rw [decide_eq_false (fun e => ql2 (by rw [e]))]
    exact rackSame_l2 pp qq a1 a2 a3 a4 a5 a6 b1 b2 b3 b4 b5 b6 x y w ha hb qt0 ql0 qt1 ql1 qt2 ql2
  by_cases qpl : plainEqb pp qq = true
  rotate_left
  · rw [decide_eq_false (fun e => qpl ((plainEqb_iff _ _).2 (by rw [HD e])))]
    exact rackSame_pl pp qq a1 a2 a3 a4 a5 a6 b1 b2 b3 b4 b5 b6 x y w ha hb qt0 ql0 qt1 ql1 qt2 ql2 qpl
  by_cases qrk : x.rk = y.rk
  rotate_left
  · rw [decide_eq_false (fun e => qrk (by rw [e]))]
    exact rackSame_rk pp qq a1 a2 a3 a4 a5 a6 b1 b2 b3 b4 b5 b6 x y w ha hb qt0 ql0 qt1 ql1 qt2 ql2 qpl qrk
  by_cases qhl : x.hl = y.hl
  rotate_left
  · rw [decide_eq_false (fun e => qhl (by rw [e]))]
    exact rackSame_hl pp qq a1 a2 a3 a4 a5 a6 b1 b2 b3 b4 b5 b6 x y w ha hb qt0 ql0 qt1 ql1 qt2 ql2 qpl qrk qhl
  by_cases qrd : x.rd = y.rd
  rotate_left
  · rw [decide_eq_false (fun e => qrd (by rw [e]))]
    exact rackSame_rd pp qq a1 a2 a3 a4 a5 a6 b1 b2 b3 b4 b5 b6 x y w ha hb qt0 ql0 qt1 ql1 qt2 ql2 qpl qrk qhl qrd
  rw [decide_eq_true (st_ext (HP (((plainEqb_iff _ _).1 qpl).trans (by rw [← qt0, ← qt1, ← qt2])).symm) qrk ql0 ql1 ql2 qhl qrd)]
  exact rackSame_ok pp qq a1 a2 a3 a4 a5 a6 b1 b2 b3 b4 b5 b6 x y w ha hb qt0 ql0 qt1 ql1 qt2 ql2 qpl qrk qhl qrd
theorem rackSame {s t : Wk} {x y : St} {w : World} (ha : Lies w s x) (hb : Lies w t y) : Calls Try.prog 31 #[wv s, wv t] w fun e w' => e = .returned (.bool (decide (x = y))) ∧ Below w.heap.size w w' := by
  obtain ⟨p1, a1, a2, a3, a4, a5, a6⟩ := s
  obtain ⟨p2, b1, b2, b3, b4, b5, b6⟩ := t
  exact rackSame_go p1 p2 a1 a2 a3 a4 a5 a6 b1 b2 b3 b4 b5 b6 x y w ha hb
end Go.Proofs.Ytkplkhcboobfaaa.Wo
