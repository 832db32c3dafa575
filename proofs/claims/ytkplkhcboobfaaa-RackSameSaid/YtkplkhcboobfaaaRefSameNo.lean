import Derived.Test.YtkplkhcboobfaaaGreat
namespace Go.Proofs.Ytkplkhcboobfaaa.Wo
open Go Go.RowKit Go.Proofs.Ytkplkhcboobfaaa.Gro Go.Proofs.Ytkplkhcboobfaaa.Own Go.Proofs.Ytkplkhcboobfaaa.Wd Go.Proofs.Ytkplkhcboobfaaa.Ap Go.Proofs.Ytkplkhcboobfaaa.Pl
set_option linter.unusedVariables false
set_option linter.unusedSimpArgs false
/-- The plain fields but the tags. -/
def plainEq (p q : Pl) : Prop := p.ln = q.ln ∧ (p.o0 = q.o0 ∧ p.o1 = q.o1 ∧ p.o2 = q.o2 ∧ p.o3 = q.o3 ∧ p.o4 = q.o4 ∧ p.o5 = q.o5 ∧ p.o6 = q.o6) ∧ p.pn = q.pn ∧ p.ep = q.ep ∧ p.b = q.b ∧ p.k = q.k ∧ p.i = q.i ∧ p.c = q.c ∧ p.br = q.br ∧ p.h = q.h ∧ p.n = q.n ∧ p.v = q.v ∧ p.u = q.u ∧ p.g = q.g ∧ p.j = q.j ∧ p.t = q.t ∧ p.rt = q.rt ∧ p.gv = q.gv
set_option maxRecDepth 100000 in
set_option maxHeartbeats 4000000 in
theorem refSame_plain (pp qq : Pl) (hne : ¬ plainEq pp qq) (a1 a2 a3 a4 a5 a6 b1 b2 b3 b4 b5 b6 : Sl) (w : World) :
    Calls Try.prog 32 #[wv ⟨pp, a1, a2, a3, a4, a5, a6⟩, wv ⟨qq, b1, b2, b3, b4, b5, b6⟩] w fun e w' => e = .returned (.bool false) ∧ Below w.heap.size w w' := by
  have e0 : ∀ s : Wk, (wc s)[0]? = some (.int .i64 s.p.ln) := fun _ => rfl
  have e1 : ∀ s : Wk, (wc s)[1]? = some (.int .i64 s.p.o0) := fun _ => rfl
  have e2 : ∀ s : Wk, (wc s)[2]? = some (.int .u64 s.p.o1) := fun _ => rfl
  have e3 : ∀ s : Wk, (wc s)[3]? = some (.int .u64 s.p.o2) := fun _ => rfl
  have e4 : ∀ s : Wk, (wc s)[4]? = some (.int .i64 s.p.o3) := fun _ => rfl
  have e5 : ∀ s : Wk, (wc s)[5]? = some (.bool s.p.o4) := fun _ => rfl
  have e6 : ∀ s : Wk, (wc s)[6]? = some (.int .i64 s.p.o5) := fun _ => rfl
  have e7 : ∀ s : Wk, (wc s)[7]? = some (.int .i64 s.p.o6) := fun _ => rfl
  have e8 : ∀ s : Wk, (wc s)[8]? = some (.bool s.p.pn) := fun _ => rfl
  have e9 : ∀ s : Wk, (wc s)[9]? = some (.int .u64 s.p.ep) := fun _ => rfl
  have e10 : ∀ s : Wk, (wc s)[10]? = some (.slice s.rk.ad s.rk.len s.rk.cap) := fun _ => rfl
  have e11 : ∀ s : Wk, (wc s)[11]? = some (.int .u64 s.p.t0) := fun _ => rfl
  have e12 : ∀ s : Wk, (wc s)[12]? = some (.slice s.l0.ad s.l0.len s.l0.cap) := fun _ => rfl
  have e13 : ∀ s : Wk, (wc s)[13]? = some (.int .u64 s.p.t1) := fun _ => rfl
  have e14 : ∀ s : Wk, (wc s)[14]? = some (.slice s.l1.ad s.l1.len s.l1.cap) := fun _ => rfl
  have e15 : ∀ s : Wk, (wc s)[15]? = some (.int .u64 s.p.t2) := fun _ => rfl
  have e16 : ∀ s : Wk, (wc s)[16]? = some (.slice s.l2.ad s.l2.len s.l2.cap) := fun _ => rfl
  have e17 : ∀ s : Wk, (wc s)[17]? = some (.slice s.hl.ad s.hl.len s.hl.cap) := fun _ => rfl
  have e18 : ∀ s : Wk, (wc s)[18]? = some (.int .i64 s.p.b) := fun _ => rfl
  have e19 : ∀ s : Wk, (wc s)[19]? = some (.int .i64 s.p.k) := fun _ => rfl
  have e20 : ∀ s : Wk, (wc s)[20]? = some (.int .i64 s.p.i) := fun _ => rfl
  have e21 : ∀ s : Wk, (wc s)[21]? = some (.int .i64 s.p.c) := fun _ => rfl
  have e22 : ∀ s : Wk, (wc s)[22]? = some (.int .i64 s.p.br) := fun _ => rfl
  have e23 : ∀ s : Wk, (wc s)[23]? = some (.int .u64 s.p.h) := fun _ => rfl
  have e24 : ∀ s : Wk, (wc s)[24]? = some (.int .u64 s.p.n) := fun _ => rfl
  have e25 : ∀ s : Wk, (wc s)[25]? = some (.int .u64 s.p.v) := fun _ => rfl
  have e26 : ∀ s : Wk, (wc s)[26]? = some (.int .u64 s.p.u) := fun _ => rfl
  have e27 : ∀ s : Wk, (wc s)[27]? = some (.int .u64 s.p.g) := fun _ => rfl
  have e28 : ∀ s : Wk, (wc s)[28]? = some (.int .i64 s.p.j) := fun _ => rfl
  have e29 : ∀ s : Wk, (wc s)[29]? = some (.slice s.rd.ad s.rd.len s.rd.cap) := fun _ => rfl
  have e30 : ∀ s : Wk, (wc s)[30]? = some (.int .u64 s.p.t) := fun _ => rfl
  have e31 : ∀ s : Wk, (wc s)[31]? = some (.int .i64 s.p.rt) := fun _ => rfl
  have e32 : ∀ s : Wk, (wc s)[32]? = some (.bool s.p.gv) := fun _ => rfl
  go_enter Try.func32, Try.ntmps32
  have fin : Below w.heap.size w ((w.alloc (.cells (wc ⟨pp, a1, a2, a3, a4, a5, a6⟩) 63)).alloc (.cells (wc ⟨qq, b1, b2, b3, b4, b5, b6⟩) 63)) := ((Below.refl _ _).alloc (Nat.le_refl _) _).alloc (by simp) _
  go_wp2
  all_goals first
    | (go_ret; exact ⟨rfl, fin⟩)
    | (refine absurd ?_ hne
       simp only [bne_eq_false_iff_eq, Bool.not_eq_false'] at *
       simp_all [plainEq])
end Go.Proofs.Ytkplkhcboobfaaa.Wo
