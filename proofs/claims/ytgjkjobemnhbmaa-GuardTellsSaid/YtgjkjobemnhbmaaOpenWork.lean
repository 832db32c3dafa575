/- Arguments of the laws, opened: a state of a worker (made by genopenw.py). -/
import Derived.Test.YtgjkjobemnhbmaaOpenList
import Derived.Test.YtgjkjobemnhbmaaWork
namespace Go.Proofs.Ytgjkjobemnhbmaa.Shp
open Go Go.ChangeShapes Go.WideShapes Go.Proofs.Ytgjkjobemnhbmaa.Pl Go.Proofs.Ytgjkjobemnhbmaa.Wd Go.Proofs.Ytgjkjobemnhbmaa.Ap Go.Proofs.Ytgjkjobemnhbmaa.Wo
set_option linter.unusedVariables false
theorem okl_slice {W : World} {k : IntKind} {r : List Shape} {cs : List Value} (h : Shape.okl W (.slice [.int k] :: r) cs) : ∃ (y : Sl) (l : List Int) (vs : List Value), cs = y.v :: vs ∧ Reads W k y.v l ∧ Fit k l ∧ Shape.okl W r vs := by
  obtain ⟨v, vs, rfl, h1, h2⟩ := okl_cons h
  obtain ⟨y, l, rfl, hr, hf⟩ := reads_of_ok h1
  exact ⟨y, l, vs, rfl, hr, hf, h2⟩
/-- The integers of a state fit their kinds. -/
structure WFit (x : St) : Prop where
  ln : (Lit.int .i64 x.p.ln).wf = true
  o0 : (Lit.int .i64 x.p.o0).wf = true
  o1 : (Lit.int .u64 x.p.o1).wf = true
  o2 : (Lit.int .u64 x.p.o2).wf = true
  o3 : (Lit.int .i64 x.p.o3).wf = true
  o5 : (Lit.int .i64 x.p.o5).wf = true
  o6 : (Lit.int .i64 x.p.o6).wf = true
  ep : (Lit.int .u64 x.p.ep).wf = true
  t0 : (Lit.int .u64 x.p.t0).wf = true
  t1 : (Lit.int .u64 x.p.t1).wf = true
  t2 : (Lit.int .u64 x.p.t2).wf = true
  b : (Lit.int .i64 x.p.b).wf = true
  k : (Lit.int .i64 x.p.k).wf = true
  i : (Lit.int .i64 x.p.i).wf = true
  c : (Lit.int .i64 x.p.c).wf = true
  br : (Lit.int .i64 x.p.br).wf = true
  h : (Lit.int .u64 x.p.h).wf = true
  n : (Lit.int .u64 x.p.n).wf = true
  v : (Lit.int .u64 x.p.v).wf = true
  u : (Lit.int .u64 x.p.u).wf = true
  g : (Lit.int .u64 x.p.g).wf = true
  j : (Lit.int .i64 x.p.j).wf = true
  t : (Lit.int .u64 x.p.t).wf = true
  rt : (Lit.int .i64 x.p.rt).wf = true
  frk : Fit .i64 x.rk
  fl0 : Fit .i64 x.l0
  fl1 : Fit .i64 x.l1
  fl2 : Fit .i64 x.l2
  fhl : Fit .i64 x.hl
  frd : Fit .u64 x.rd
abbrev workSh : List Shape := [i6, i6, u6, u6, i6, .bool, i6, i6, .bool, u6, (.slice [.int .i64]), u6, (.slice [.int .i64]), u6, (.slice [.int .i64]), u6, (.slice [.int .i64]), (.slice [.int .i64]), i6, i6, i6, i6, i6, u6, u6, u6, u6, u6, i6, (.slice [.int .u64]), u6, i6, .bool]
section
variable {H : Type} {enc : TypeId × Value → H} {W : World}
theorem work_shapes : shapes Try.prog 6 63 = some workSh := by kernel_rfl
set_option maxRecDepth 100000 in
theorem okl_work {cs : List Value} (h : Shape.okl W workSh cs) : ∃ s x, cs = (wc s).toList ∧ Lies W s x ∧ WFit x := by
  unfold workSh at h
  obtain ⟨nln, _, rfl, qln, h⟩ := okl_int h
  obtain ⟨no0, _, rfl, qo0, h⟩ := okl_int h
  obtain ⟨no1, _, rfl, qo1, h⟩ := okl_int h
  obtain ⟨no2, _, rfl, qo2, h⟩ := okl_int h
  obtain ⟨no3, _, rfl, qo3, h⟩ := okl_int h
  obtain ⟨no4, _, eo4, h1⟩ := okl_bool h
  subst eo4
  have h := h1
  clear h1
  obtain ⟨no5, _, rfl, qo5, h⟩ := okl_int h
  obtain ⟨no6, _, rfl, qo6, h⟩ := okl_int h
  obtain ⟨npn, _, epn, h1⟩ := okl_bool h
  subst epn
  have h := h1
  clear h1
  obtain ⟨nep, _, rfl, qep, h⟩ := okl_int h
  obtain ⟨yrk, lrk, _, rfl, rrk, qrk, h⟩ := okl_slice h
  obtain ⟨nt0, _, rfl, qt0, h⟩ := okl_int h
  obtain ⟨yl0, ll0, _, rfl, rl0, ql0, h⟩ := okl_slice h
  obtain ⟨nt1, _, rfl, qt1, h⟩ := okl_int h
  obtain ⟨yl1, ll1, _, rfl, rl1, ql1, h⟩ := okl_slice h
  obtain ⟨nt2, _, rfl, qt2, h⟩ := okl_int h
  obtain ⟨yl2, ll2, _, rfl, rl2, ql2, h⟩ := okl_slice h
  obtain ⟨yhl, lhl, _, rfl, rhl, qhl, h⟩ := okl_slice h
  obtain ⟨nb, _, rfl, qb, h⟩ := okl_int h
  obtain ⟨nk, _, rfl, qk, h⟩ := okl_int h
  obtain ⟨ni, _, rfl, qi, h⟩ := okl_int h
  obtain ⟨nc, _, rfl, qc, h⟩ := okl_int h
  obtain ⟨nbr, _, rfl, qbr, h⟩ := okl_int h
  obtain ⟨nh, _, rfl, qh, h⟩ := okl_int h
  obtain ⟨nn, _, rfl, qn, h⟩ := okl_int h
  obtain ⟨nv, _, rfl, qv, h⟩ := okl_int h
  obtain ⟨nu, _, rfl, qu, h⟩ := okl_int h
  obtain ⟨ng, _, rfl, qg, h⟩ := okl_int h
  obtain ⟨nj, _, rfl, qj, h⟩ := okl_int h
  obtain ⟨yrd, lrd, _, rfl, rrd, qrd, h⟩ := okl_slice h
  obtain ⟨nt, _, rfl, qt, h⟩ := okl_int h
  obtain ⟨nrt, _, rfl, qrt, h⟩ := okl_int h
  obtain ⟨ngv, _, egv, h1⟩ := okl_bool h
  subst egv
  have h := h1
  clear h1
  obtain rfl := okl_nil h
  refine ⟨⟨⟨nln, no0, no1, no2, no3, no4, no5, no6, npn, nep, nt0, nt1, nt2, nb, nk, ni, nc, nbr, nh, nn, nv, nu, ng, nj, nt, nrt, ngv⟩, yrk, yl0, yl1, yl2, yhl, yrd⟩, ⟨⟨nln, no0, no1, no2, no3, no4, no5, no6, npn, nep, nt0, nt1, nt2, nb, nk, ni, nc, nbr, nh, nn, nv, nu, ng, nj, nt, nrt, ngv⟩, lrk, ll0, ll1, ll2, lhl, lrd⟩, rfl, ⟨rfl, rrk, rl0, rl1, rl2, rhl, rrd⟩, ⟨qln, qo0, qo1, qo2, qo3, qo5, qo6, qep, qt0, qt1, qt2, qb, qk, qi, qc, qbr, qh, qn, qv, qu, qg, qj, qt, qrt, qrk, ql0, ql1, ql2, qhl, qrd⟩⟩
set_option maxRecDepth 100000 in
theorem open_work {r : Reach} {b0 : Nat} {v : Value} {d : DataW H} {p : List MemPlace} (hv : Value.okWide Try.prog W r b0 63 v) (h : DataW.Trod enc Try.prog W 0 (fun _ => true) true 63 v d p) : ∃ s : Wk, v = wv s ∧ ∃ x, Lies W s x ∧ WFit x := by
  obtain ⟨cs, rfl, _⟩ := okWide_struct Try.underlying63 hv
  obtain ⟨fuel, hf⟩ := h
  obtain ⟨s, x, e, hl, hw⟩ := okl_work (open_shapes 6 _ _ work_shapes fuel _ _ hf (by kernel_rfl))
  obtain ⟨l⟩ := cs
  simp only [Value.cells] at e
  exact ⟨s, by rw [e], x, hl, hw⟩
end
end Go.Proofs.Ytgjkjobemnhbmaa.Shp
