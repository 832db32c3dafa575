/- rack.Same, end by end (made by gensame3.py). -/
import Derived.Test.YtkplkhcboobfaaaSameBase
namespace Go.Proofs.Ytkplkhcboobfaaa.Wo
open Go Go.RowKit Go.Proofs.Ytkplkhcboobfaaa.Gro Go.Proofs.Ytkplkhcboobfaaa.Own Go.Proofs.Ytkplkhcboobfaaa.Wd Go.Proofs.Ytkplkhcboobfaaa.Ap Go.Proofs.Ytkplkhcboobfaaa.Pl
set_option linter.unusedVariables false
set_option linter.unusedSimpArgs false
set_option maxRecDepth 100000 in
set_option maxHeartbeats 16000000 in
theorem rackSame_pl (pp qq : Pl) (a1 a2 a3 a4 a5 a6 b1 b2 b3 b4 b5 b6 : Sl) (x y : St) (w : World) (ha : Lies w ⟨pp, a1, a2, a3, a4, a5, a6⟩ x) (hb : Lies w ⟨qq, b1, b2, b3, b4, b5, b6⟩ y) (qt0 : pp.t0 = qq.t0) (ql0 : x.l0 = y.l0) (qt1 : pp.t1 = qq.t1) (ql1 : x.l1 = y.l1) (qt2 : pp.t2 = qq.t2) (ql2 : x.l2 = y.l2) (npl : ¬ plainEqb pp qq = true) :
    Calls Try.prog 31 #[wv ⟨pp, a1, a2, a3, a4, a5, a6⟩, wv ⟨qq, b1, b2, b3, b4, b5, b6⟩] w fun e w' => e = .returned (.bool false) ∧ Below w.heap.size w w' := by
  have Qt0 := Lib.hid qt0
  clear qt0
  have Ql0 := Lib.hid ql0
  clear ql0
  have Qt1 := Lib.hid qt1
  clear qt1
  have Ql1 := Lib.hid ql1
  clear ql1
  have Qt2 := Lib.hid qt2
  clear qt2
  have Ql2 := Lib.hid ql2
  clear ql2
  have Npl := Lib.hid npl
  clear npl
  have e0 : ∀ s : Wk, (wc s)[0]? = some (.int .i64 s.p.ln) := fun _ => rfl
  have e1 : ∀ s : Wk, (wc s)[1]? = some (.int .i64 s.p.o0) := fun _ => rfl
  have e2 : ∀ s : Wk, (wc s)[2]? = some (.int .u64 s.p.o1) := fun _ => rfl
  have e3 : ∀ s : Wk, (wc s)[3]? = some (.int .u64 s.p.o2) := fun _ => rfl
  have e4 : ∀ s : Wk, (wc s)[4]? = some (.int .i64 s.p.o3) := fun _ => rfl
  have e5 : ∀ s : Wk, (wc s)[5]? = some (.bool s.p.o4) := fun _ => rfl
  have e6 : ∀ s : Wk, (wc s)[6]? = some (.int .i64 s.p.o5) := fun _ => rfl
  have e7 : ∀ s : Wk, (wc s)[7]? = some (.int .i64 s.p.o6) := fun _ => rfl
  have e8 : ∀ s : Wk, (wc s)[8]? = some (.bool s.p.pn) := fun _ => rfl
  have e9 : ∀ s : Wk, (wc s)[9]? = some (.int .u64 s.p.ep) := fun _ => rfl
  have e10 : ∀ s : Wk, (wc s)[10]? = some (.slice s.rk.ad s.rk.len s.rk.cap) := fun _ => rfl
  have e11 : ∀ s : Wk, (wc s)[11]? = some (.int .u64 s.p.t0) := fun _ => rfl
  have e12 : ∀ s : Wk, (wc s)[12]? = some (.slice s.l0.ad s.l0.len s.l0.cap) := fun _ => rfl
  have e13 : ∀ s : Wk, (wc s)[13]? = some (.int .u64 s.p.t1) := fun _ => rfl
  have e14 : ∀ s : Wk, (wc s)[14]? = some (.slice s.l1.ad s.l1.len s.l1.cap) := fun _ => rfl
  have e15 : ∀ s : Wk, (wc s)[15]? = some (.int .u64 s.p.t2) := fun _ => rfl
  have e16 : ∀ s : Wk, (wc s)[16]? = some (.slice s.l2.ad s.l2.len s.l2.cap) := fun _ => rfl
  have e17 : ∀ s : Wk, (wc s)[17]? = some (.slice s.hl.ad s.hl.len s.hl.cap) := fun _ => rfl
  have e18 : ∀ s : Wk, (wc s)[18]? = some (.int .i64 s.p.b) := fun _ => rfl
  have e19 : ∀ s : Wk, (wc s)[19]? = some (.int .i64 s.p.k) := fun _ => rfl
  have e20 : ∀ s : Wk, (wc s)[20]? = some (.int .i64 s.p.i) := fun _ => rfl
  have e21 : ∀ s : Wk, (wc s)[21]? = some (.int .i64 s.p.c) := fun _ => rfl
  have e22 : ∀ s : Wk, (wc s)[22]? = some (.int .i64 s.p.br) := fun _ => rfl
  have e23 : ∀ s : Wk, (wc s)[23]? = some (.int .u64 s.p.h) := fun _ => rfl
  have e24 : ∀ s : Wk, (wc s)[24]? = some (.int .u64 s.p.n) := fun _ => rfl
  have e25 : ∀ s : Wk, (wc s)[25]? = some (.int .u64 s.p.v) := fun _ => rfl
  have e26 : ∀ s : Wk, (wc s)[26]? = some (.int .u64 s.p.u) := fun _ => rfl
  have e27 : ∀ s : Wk, (wc s)[27]? = some (.int .u64 s.p.g) := fun _ => rfl
  have e28 : ∀ s : Wk, (wc s)[28]? = some (.int .i64 s.p.j) := fun _ => rfl
  have e29 : ∀ s : Wk, (wc s)[29]? = some (.slice s.rd.ad s.rd.len s.rd.cap) := fun _ => rfl
  have e30 : ∀ s : Wk, (wc s)[30]? = some (.int .u64 s.p.t) := fun _ => rfl
  have e31 : ∀ s : Wk, (wc s)[31]? = some (.int .i64 s.p.rt) := fun _ => rfl
  have e32 : ∀ s : Wk, (wc s)[32]? = some (.bool s.p.gv) := fun _ => rfl
  go_enter Try.func31, Try.ntmps31
  go_wp2
  have A0 := (Bk.new w (wc ⟨pp, a1, a2, a3, a4, a5, a6⟩) 63).alloc (.cells (wc ⟨qq, b1, b2, b3, b4, b5, b6⟩) 63)
  have B0 := Bk.new (w.alloc (.cells (wc ⟨pp, a1, a2, a3, a4, a5, a6⟩) 63)) (wc ⟨qq, b1, b2, b3, b4, b5, b6⟩) 63
  have hw0 : Below w.heap.size w ((w.alloc (.cells (wc ⟨pp, a1, a2, a3, a4, a5, a6⟩) 63)).alloc (.cells (wc ⟨qq, b1, b2, b3, b4, b5, b6⟩) 63)) := ((Below.refl _ _).alloc (Nat.le_refl _) _).alloc (by simp) _
  rw [show (w.alloc (.cells (wc ⟨pp, a1, a2, a3, a4, a5, a6⟩) 63)).heap.size = w.heap.size + 1 by simp] at B0
  have ha0 := ha.keep hw0
  have hb0 := hb.keep hw0
  generalize (w.alloc (.cells (wc ⟨pp, a1, a2, a3, a4, a5, a6⟩) 63)).alloc (.cells (wc ⟨qq, b1, b2, b3, b4, b5, b6⟩) 63) = v0 at *
  refine wp_loop_rounds 4 ?_
  rw [rounds_succ]
  have xa := A0.cells
  have xb := B0.cells
  have la := A0.lt
  have lb := B0.lt
  have hd : (pp.t0 != qq.t0) = false := by have := Qt0.out; simp [this]
  have I := equI_g ha0.l0 hb0.l0 (decide_eq_true Ql0.out)
  go_wp2
  refine wp_region_grown (by kernel_rfl) (by kernel_rfl) ?_
  have hg := @gcell
  repeat (go_big_quiet_step (exact I _))
  refine wpQuiet_nil ?_
  rintro v1 ⟨⟨_, hbv0⟩, rfl⟩
  clear hg
  clear I
  have A1 := A0.keep hbv0
  have B1 := B0.keep hbv0
  have ha1 := ha0.keep hbv0
  have hb1 := hb0.keep hbv0
  have hw1 := hw0.trans (hbv0.mono hw0.size)
  clear xa xb la lb A0 B0 ha0 hb0 hd
  go_wp2
  rw [rounds_succ]
  have xa := A1.cells
  have xb := B1.cells
  have la := A1.lt
  have lb := B1.lt
  have hd : (pp.t1 != qq.t1) = false := by have := Qt1.out; simp [this]
  have I := equI_g ha1.l1 hb1.l1 (decide_eq_true Ql1.out)
  go_wp2
  refine wp_region_grown (by kernel_rfl) (by kernel_rfl) ?_
  have hg := @gcell
  repeat (go_big_quiet_step (exact I _))
  refine wpQuiet_nil ?_
  rintro v2 ⟨⟨_, hbv1⟩, rfl⟩
  clear hg
  clear I
  have A2 := A1.keep hbv1
  have B2 := B1.keep hbv1
  have ha2 := ha1.keep hbv1
  have hb2 := hb1.keep hbv1
  have hw2 := hw1.trans (hbv1.mono hw1.size)
  clear xa xb la lb A1 B1 ha1 hb1 hd
  go_wp2
  rw [rounds_succ]
  have xa := A2.cells
  have xb := B2.cells
  have la := A2.lt
  have lb := B2.lt
  have hd : (pp.t2 != qq.t2) = false := by have := Qt2.out; simp [this]
  have I := equI_g ha2.l2 hb2.l2 (decide_eq_true Ql2.out)
  go_wp2
  refine wp_region_grown (by kernel_rfl) (by kernel_rfl) ?_
  have hg := @gcell
  repeat (go_big_quiet_step (exact I _))
  refine wpQuiet_nil ?_
  rintro v3 ⟨⟨_, hbv2⟩, rfl⟩
  clear hg
  clear I
  have A3 := A2.keep hbv2
  have B3 := B2.keep hbv2
  have ha3 := ha2.keep hbv2
  have hb3 := hb2.keep hbv2
  have hw3 := hw2.trans (hbv2.mono hw2.size)
  clear xa xb la lb A2 B2 ha2 hb2 hd
  go_wp2
  rw [rounds_succ]
  have xa := A3.cells
  have xb := B3.cells
  have la := A3.lt
  have lb := B3.lt
  clear e0 e1 e2 e3 e4 e5 e6 e7 e8 e9 e11 e12 e13 e14 e15 e16 e18 e19 e20 e21 e22 e23 e24 e25 e26 e27 e28 e30 e31 e32
  have hgd := guard_plain pp qq
  have hq := eql_plain pp qq
  have hp0 : plainEqb pp qq = false := by have := Npl.out; simpa using this
  simp only [hp0] at hq
  clear hp0
  go_wp2
  refine wp_region_grown (by kernel_rfl) (by kernel_rfl) ?_
  have hg := @gcell
  (refine wpQuiet_load_row rfl 63 _ rfl (w.heap.size) rfl (wc ⟨pp, a1, a2, a3, a4, a5, a6⟩) 63 _ (by rintro _ ⟨n, rfl⟩; exact Bk.keep A3 n.2) Try.underlying63 rfl (by kernel_rfl) ?_; simp only [Act.put, List.setIfInBounds_toArray, List.set_cons_succ, List.set_cons_zero])
  go_big_quiet_step (exact grown_of (plainOf ⟨pp, a1, a2, a3, a4, a5, a6⟩ _))
  (refine wpQuiet_load_row rfl 63 _ rfl (w.heap.size + 1) rfl (wc ⟨qq, b1, b2, b3, b4, b5, b6⟩) 63 _ (by rintro _ ⟨n, rfl⟩; exact Bk.keep B3 n.2) Try.underlying63 rfl (by kernel_rfl) ?_; simp only [Act.put, List.setIfInBounds_toArray, List.set_cons_succ, List.set_cons_zero])
  go_big_quiet_step (exact grown_of (plainOf ⟨qq, b1, b2, b3, b4, b5, b6⟩ _))
  repeat (go_big_quiet_step (fail))
  refine wpQuiet_nil ?_
  rintro u1 ⟨⟨_, hbu⟩, rfl⟩
  clear hg
  go_wp2
  go_ret
  exact ⟨rfl, hw3.trans (hbu.mono hw3.size)⟩
set_option maxRecDepth 100000 in
set_option maxHeartbeats 16000000 in
theorem rackSame_rk (pp qq : Pl) (a1 a2 a3 a4 a5 a6 b1 b2 b3 b4 b5 b6 : Sl) (x y : St) (w : World) (ha : Lies w ⟨pp, a1, a2, a3, a4, a5, a6⟩ x) (hb : Lies w ⟨qq, b1, b2, b3, b4, b5, b6⟩ y) (qt0 : pp.t0 = qq.t0) (ql0 : x.l0 = y.l0) (qt1 : pp.t1 = qq.t1) (ql1 : x.l1 = y.l1) (qt2 : pp.t2 = qq.t2) (ql2 : x.l2 = y.l2) (qpl : plainEqb pp qq = true) (nrk : ¬ x.rk = y.rk) :
    Calls Try.prog 31 #[wv ⟨pp, a1, a2, a3, a4, a5, a6⟩, wv ⟨qq, b1, b2, b3, b4, b5, b6⟩] w fun e w' => e = .returned (.bool false) ∧ Below w.heap.size w w' := by
  have Qt0 := Lib.hid qt0
  clear qt0
  have Ql0 := Lib.hid ql0
  clear ql0
  have Qt1 := Lib.hid qt1
  clear qt1
  have Ql1 := Lib.hid ql1
  clear ql1
  have Qt2 := Lib.hid qt2
  clear qt2
  have Ql2 := Lib.hid ql2
  clear ql2
  have Qpl := Lib.hid qpl
  clear qpl
  have Nrk := Lib.hid nrk
  clear nrk
  have e0 : ∀ s : Wk, (wc s)[0]? = some (.int .i64 s.p.ln) := fun _ => rfl
  have e1 : ∀ s : Wk, (wc s)[1]? = some (.int .i64 s.p.o0) := fun _ => rfl
  have e2 : ∀ s : Wk, (wc s)[2]? = some (.int .u64 s.p.o1) := fun _ => rfl
  have e3 : ∀ s : Wk, (wc s)[3]? = some (.int .u64 s.p.o2) := fun _ => rfl
  have e4 : ∀ s : Wk, (wc s)[4]? = some (.int .i64 s.p.o3) := fun _ => rfl
  have e5 : ∀ s : Wk, (wc s)[5]? = some (.bool s.p.o4) := fun _ => rfl
  have e6 : ∀ s : Wk, (wc s)[6]? = some (.int .i64 s.p.o5) := fun _ => rfl
  have e7 : ∀ s : Wk, (wc s)[7]? = some (.int .i64 s.p.o6) := fun _ => rfl
  have e8 : ∀ s : Wk, (wc s)[8]? = some (.bool s.p.pn) := fun _ => rfl
  have e9 : ∀ s : Wk, (wc s)[9]? = some (.int .u64 s.p.ep) := fun _ => rfl
  have e10 : ∀ s : Wk, (wc s)[10]? = some (.slice s.rk.ad s.rk.len s.rk.cap) := fun _ => rfl
  have e11 : ∀ s : Wk, (wc s)[11]? = some (.int .u64 s.p.t0) := fun _ => rfl
  have e12 : ∀ s : Wk, (wc s)[12]? = some (.slice s.l0.ad s.l0.len s.l0.cap) := fun _ => rfl
  have e13 : ∀ s : Wk, (wc s)[13]? = some (.int .u64 s.p.t1) := fun _ => rfl
  have e14 : ∀ s : Wk, (wc s)[14]? = some (.slice s.l1.ad s.l1.len s.l1.cap) := fun _ => rfl
  have e15 : ∀ s : Wk, (wc s)[15]? = some (.int .u64 s.p.t2) := fun _ => rfl
  have e16 : ∀ s : Wk, (wc s)[16]? = some (.slice s.l2.ad s.l2.len s.l2.cap) := fun _ => rfl
  have e17 : ∀ s : Wk, (wc s)[17]? = some (.slice s.hl.ad s.hl.len s.hl.cap) := fun _ => rfl
  have e18 : ∀ s : Wk, (wc s)[18]? = some (.int .i64 s.p.b) := fun _ => rfl
  have e19 : ∀ s : Wk, (wc s)[19]? = some (.int .i64 s.p.k) := fun _ => rfl
  have e20 : ∀ s : Wk, (wc s)[20]? = some (.int .i64 s.p.i) := fun _ => rfl
  have e21 : ∀ s : Wk, (wc s)[21]? = some (.int .i64 s.p.c) := fun _ => rfl
  have e22 : ∀ s : Wk, (wc s)[22]? = some (.int .i64 s.p.br) := fun _ => rfl
  have e23 : ∀ s : Wk, (wc s)[23]? = some (.int .u64 s.p.h) := fun _ => rfl
  have e24 : ∀ s : Wk, (wc s)[24]? = some (.int .u64 s.p.n) := fun _ => rfl
  have e25 : ∀ s : Wk, (wc s)[25]? = some (.int .u64 s.p.v) := fun _ => rfl
  have e26 : ∀ s : Wk, (wc s)[26]? = some (.int .u64 s.p.u) := fun _ => rfl
  have e27 : ∀ s : Wk, (wc s)[27]? = some (.int .u64 s.p.g) := fun _ => rfl
  have e28 : ∀ s : Wk, (wc s)[28]? = some (.int .i64 s.p.j) := fun _ => rfl
  have e29 : ∀ s : Wk, (wc s)[29]? = some (.slice s.rd.ad s.rd.len s.rd.cap) := fun _ => rfl
  have e30 : ∀ s : Wk, (wc s)[30]? = some (.int .u64 s.p.t) := fun _ => rfl
  have e31 : ∀ s : Wk, (wc s)[31]? = some (.int .i64 s.p.rt) := fun _ => rfl
  have e32 : ∀ s : Wk, (wc s)[32]? = some (.bool s.p.gv) := fun _ => rfl
  go_enter Try.func31, Try.ntmps31
  go_wp2
  have A0 := (Bk.new w (wc ⟨pp, a1, a2, a3, a4, a5, a6⟩) 63).alloc (.cells (wc ⟨qq, b1, b2, b3, b4, b5, b6⟩) 63)
  have B0 := Bk.new (w.alloc (.cells (wc ⟨pp, a1, a2, a3, a4, a5, a6⟩) 63)) (wc ⟨qq, b1, b2, b3, b4, b5, b6⟩) 63
  have hw0 : Below w.heap.size w ((w.alloc (.cells (wc ⟨pp, a1, a2, a3, a4, a5, a6⟩) 63)).alloc (.cells (wc ⟨qq, b1, b2, b3, b4, b5, b6⟩) 63)) := ((Below.refl _ _).alloc (Nat.le_refl _) _).alloc (by simp) _
  rw [show (w.alloc (.cells (wc ⟨pp, a1, a2, a3, a4, a5, a6⟩) 63)).heap.size = w.heap.size + 1 by simp] at B0
  have ha0 := ha.keep hw0
  have hb0 := hb.keep hw0
  generalize (w.alloc (.cells (wc ⟨pp, a1, a2, a3, a4, a5, a6⟩) 63)).alloc (.cells (wc ⟨qq, b1, b2, b3, b4, b5, b6⟩) 63) = v0 at *
  refine wp_loop_rounds 4 ?_
  rw [rounds_succ]
  have xa := A0.cells
  have xb := B0.cells
  have la := A0.lt
  have lb := B0.lt
  have hd : (pp.t0 != qq.t0) = false := by have := Qt0.out; simp [this]
  have I := equI_g ha0.l0 hb0.l0 (decide_eq_true Ql0.out)
  go_wp2
  refine wp_region_grown (by kernel_rfl) (by kernel_rfl) ?_
  have hg := @gcell
  repeat (go_big_quiet_step (exact I _))
  refine wpQuiet_nil ?_
  rintro v1 ⟨⟨_, hbv0⟩, rfl⟩
  clear hg
  clear I
  have A1 := A0.keep hbv0
  have B1 := B0.keep hbv0
  have ha1 := ha0.keep hbv0
  have hb1 := hb0.keep hbv0
  have hw1 := hw0.trans (hbv0.mono hw0.size)
  clear xa xb la lb A0 B0 ha0 hb0 hd
  go_wp2
  rw [rounds_succ]
  have xa := A1.cells
  have xb := B1.cells
  have la := A1.lt
  have lb := B1.lt
  have hd : (pp.t1 != qq.t1) = false := by have := Qt1.out; simp [this]
  have I := equI_g ha1.l1 hb1.l1 (decide_eq_true Ql1.out)
  go_wp2
  refine wp_region_grown (by kernel_rfl) (by kernel_rfl) ?_
  have hg := @gcell
  repeat (go_big_quiet_step (exact I _))
  refine wpQuiet_nil ?_
  rintro v2 ⟨⟨_, hbv1⟩, rfl⟩
  clear hg
  clear I
  have A2 := A1.keep hbv1
  have B2 := B1.keep hbv1
  have ha2 := ha1.keep hbv1
  have hb2 := hb1.keep hbv1
  have hw2 := hw1.trans (hbv1.mono hw1.size)
  clear xa xb la lb A1 B1 ha1 hb1 hd
  go_wp2
  rw [rounds_succ]
  have xa := A2.cells
  have xb := B2.cells
  have la := A2.lt
  have lb := B2.lt
  have hd : (pp.t2 != qq.t2) = false := by have := Qt2.out; simp [this]
  have I := equI_g ha2.l2 hb2.l2 (decide_eq_true Ql2.out)
  go_wp2
  refine wp_region_grown (by kernel_rfl) (by kernel_rfl) ?_
  have hg := @gcell
  repeat (go_big_quiet_step (exact I _))
  refine wpQuiet_nil ?_
  rintro v3 ⟨⟨_, hbv2⟩, rfl⟩
  clear hg
  clear I
  have A3 := A2.keep hbv2
  have B3 := B2.keep hbv2
  have ha3 := ha2.keep hbv2
  have hb3 := hb2.keep hbv2
  have hw3 := hw2.trans (hbv2.mono hw2.size)
  clear xa xb la lb A2 B2 ha2 hb2 hd
  go_wp2
  rw [rounds_succ]
  have xa := A3.cells
  have xb := B3.cells
  have la := A3.lt
  have lb := B3.lt
  clear e0 e1 e2 e3 e4 e5 e6 e7 e8 e9 e11 e12 e13 e14 e15 e16 e18 e19 e20 e21 e22 e23 e24 e25 e26 e27 e28 e30 e31 e32
  have hgd := guard_plain pp qq
  have hq := eql_plain pp qq
  have hp1 := Qpl.out
  simp only [hp1] at hq
  clear hp1
  have Irk := equI_g ha3.rk hb3.rk (decide_eq_false Nrk.out)
  go_wp2
  refine wp_region_grown (by kernel_rfl) (by kernel_rfl) ?_
  have hg := @gcell
  (refine wpQuiet_load_row rfl 63 _ rfl (w.heap.size) rfl (wc ⟨pp, a1, a2, a3, a4, a5, a6⟩) 63 _ (by rintro _ ⟨n, rfl⟩; exact Bk.keep A3 n.2) Try.underlying63 rfl (by kernel_rfl) ?_; simp only [Act.put, List.setIfInBounds_toArray, List.set_cons_succ, List.set_cons_zero])
  go_big_quiet_step (exact grown_of (plainOf ⟨pp, a1, a2, a3, a4, a5, a6⟩ _))
  (refine wpQuiet_load_row rfl 63 _ rfl (w.heap.size + 1) rfl (wc ⟨qq, b1, b2, b3, b4, b5, b6⟩) 63 _ (by rintro _ ⟨n, rfl⟩; exact Bk.keep B3 n.2) Try.underlying63 rfl (by kernel_rfl) ?_; simp only [Act.put, List.setIfInBounds_toArray, List.set_cons_succ, List.set_cons_zero])
  go_big_quiet_step (exact grown_of (plainOf ⟨qq, b1, b2, b3, b4, b5, b6⟩ _))
  repeat (go_big_quiet_step (first | ((with_reducible exact Irk _))))
  refine wpQuiet_nil ?_
  rintro u1 ⟨⟨_, hbu⟩, rfl⟩
  clear hg
  go_wp2
  go_ret
  exact ⟨rfl, hw3.trans (hbu.mono hw3.size)⟩
set_option maxRecDepth 100000 in
set_option maxHeartbeats 16000000 in
theorem rackSame_hl (pp qq : Pl) (a1 a2 a3 a4 a5 a6 b1 b2 b3 b4 b5 b6 : Sl) (x y : St) (w : World) (ha : Lies w ⟨pp, a1, a2, a3, a4, a5, a6⟩ x) (hb : Lies w ⟨qq, b1, b2, b3, b4, b5, b6⟩ y) (qt0 : pp.t0 = qq.t0) (ql0 : x.l0 = y.l0) (qt1 : pp.t1 = qq.t1) (ql1 : x.l1 = y.l1) (qt2 : pp.t2 = qq.t2) (ql2 : x.l2 = y.l2) (qpl : plainEqb pp qq = true) (qrk : x.rk = y.rk) (nhl : ¬ x.hl = y.hl) :
    Calls Try.prog 31 #[wv ⟨pp, a1, a2, a3, a4, a5, a6⟩, wv ⟨qq, b1, b2, b3, b4, b5, b6⟩] w fun e w' => e = .returned (.bool false) ∧ Below w.heap.size w w' := by
  have Qt0 := Lib.hid qt0
  clear qt0
  have Ql0 := Lib.hid ql0
  clear ql0
  have Qt1 := Lib.hid qt1
  clear qt1
  have Ql1 := Lib.hid ql1
  clear ql1
  have Qt2 := Lib.hid qt2
  clear qt2
  have Ql2 := Lib.hid ql2
  clear ql2
  have Qpl := Lib.hid qpl
  clear qpl
  have Qrk := Lib.hid qrk
  clear qrk
  have Nhl := Lib.hid nhl
  clear nhl
  have e0 : ∀ s : Wk, (wc s)[0]? = some (.int .i64 s.p.ln) := fun _ => rfl
  have e1 : ∀ s : Wk, (wc s)[1]? = some (.int .i64 s.p.o0) := fun _ => rfl
  have e2 : ∀ s : Wk, (wc s)[2]? = some (.int .u64 s.p.o1) := fun _ => rfl
  have e3 : ∀ s : Wk, (wc s)[3]? = some (.int .u64 s.p.o2) := fun _ => rfl
  have e4 : ∀ s : Wk, (wc s)[4]? = some (.int .i64 s.p.o3) := fun _ => rfl
  have e5 : ∀ s : Wk, (wc s)[5]? = some (.bool s.p.o4) := fun _ => rfl
  have e6 : ∀ s : Wk, (wc s)[6]? = some (.int .i64 s.p.o5) := fun _ => rfl
  have e7 : ∀ s : Wk, (wc s)[7]? = some (.int .i64 s.p.o6) := fun _ => rfl
  have e8 : ∀ s : Wk, (wc s)[8]? = some (.bool s.p.pn) := fun _ => rfl
  have e9 : ∀ s : Wk, (wc s)[9]? = some (.int .u64 s.p.ep) := fun _ => rfl
  have e10 : ∀ s : Wk, (wc s)[10]? = some (.slice s.rk.ad s.rk.len s.rk.cap) := fun _ => rfl
  have e11 : ∀ s : Wk, (wc s)[11]? = some (.int .u64 s.p.t0) := fun _ => rfl
  have e12 : ∀ s : Wk, (wc s)[12]? = some (.slice s.l0.ad s.l0.len s.l0.cap) := fun _ => rfl
  have e13 : ∀ s : Wk, (wc s)[13]? = some (.int .u64 s.p.t1) := fun _ => rfl
  have e14 : ∀ s : Wk, (wc s)[14]? = some (.slice s.l1.ad s.l1.len s.l1.cap) := fun _ => rfl
  have e15 : ∀ s : Wk, (wc s)[15]? = some (.int .u64 s.p.t2) := fun _ => rfl
  have e16 : ∀ s : Wk, (wc s)[16]? = some (.slice s.l2.ad s.l2.len s.l2.cap) := fun _ => rfl
  have e17 : ∀ s : Wk, (wc s)[17]? = some (.slice s.hl.ad s.hl.len s.hl.cap) := fun _ => rfl
  have e18 : ∀ s : Wk, (wc s)[18]? = some (.int .i64 s.p.b) := fun _ => rfl
  have e19 : ∀ s : Wk, (wc s)[19]? = some (.int .i64 s.p.k) := fun _ => rfl
  have e20 : ∀ s : Wk, (wc s)[20]? = some (.int .i64 s.p.i) := fun _ => rfl
  have e21 : ∀ s : Wk, (wc s)[21]? = some (.int .i64 s.p.c) := fun _ => rfl
  have e22 : ∀ s : Wk, (wc s)[22]? = some (.int .i64 s.p.br) := fun _ => rfl
  have e23 : ∀ s : Wk, (wc s)[23]? = some (.int .u64 s.p.h) := fun _ => rfl
  have e24 : ∀ s : Wk, (wc s)[24]? = some (.int .u64 s.p.n) := fun _ => rfl
  have e25 : ∀ s : Wk, (wc s)[25]? = some (.int .u64 s.p.v) := fun _ => rfl
  have e26 : ∀ s : Wk, (wc s)[26]? = some (.int .u64 s.p.u) := fun _ => rfl
  have e27 : ∀ s : Wk, (wc s)[27]? = some (.int .u64 s.p.g) := fun _ => rfl
  have e28 : ∀ s : Wk, (wc s)[28]? = some (.int .i64 s.p.j) := fun _ => rfl
  have e29 : ∀ s : Wk, (wc s)[29]? = some (.slice s.rd.ad s.rd.len s.rd.cap) := fun _ => rfl
  have e30 : ∀ s : Wk, (wc s)[30]? = some (.int .u64 s.p.t) := fun _ => rfl
  have e31 : ∀ s : Wk, (wc s)[31]? = some (.int .i64 s.p.rt) := fun _ => rfl
  have e32 : ∀ s : Wk, (wc s)[32]? = some (.bool s.p.gv) := fun _ => rfl
  go_enter Try.func31, Try.ntmps31
  go_wp2
  have A0 := (Bk.new w (wc ⟨pp, a1, a2, a3, a4, a5, a6⟩) 63).alloc (.cells (wc ⟨qq, b1, b2, b3, b4, b5, b6⟩) 63)
  have B0 := Bk.new (w.alloc (.cells (wc ⟨pp, a1, a2, a3, a4, a5, a6⟩) 63)) (wc ⟨qq, b1, b2, b3, b4, b5, b6⟩) 63
  have hw0 : Below w.heap.size w ((w.alloc (.cells (wc ⟨pp, a1, a2, a3, a4, a5, a6⟩) 63)).alloc (.cells (wc ⟨qq, b1, b2, b3, b4, b5, b6⟩) 63)) := ((Below.refl _ _).alloc (Nat.le_refl _) _).alloc (by simp) _
  rw [show (w.alloc (.cells (wc ⟨pp, a1, a2, a3, a4, a5, a6⟩) 63)).heap.size = w.heap.size + 1 by simp] at B0
  have ha0 := ha.keep hw0
  have hb0 := hb.keep hw0
  generalize (w.alloc (.cells (wc ⟨pp, a1, a2, a3, a4, a5, a6⟩) 63)).alloc (.cells (wc ⟨qq, b1, b2, b3, b4, b5, b6⟩) 63) = v0 at *
  refine wp_loop_rounds 4 ?_
  rw [rounds_succ]
  have xa := A0.cells
  have xb := B0.cells
  have la := A0.lt
  have lb := B0.lt
  have hd : (pp.t0 != qq.t0) = false := by have := Qt0.out; simp [this]
  have I := equI_g ha0.l0 hb0.l0 (decide_eq_true Ql0.out)
  go_wp2
  refine wp_region_grown (by kernel_rfl) (by kernel_rfl) ?_
  have hg := @gcell
  repeat (go_big_quiet_step (exact I _))
  refine wpQuiet_nil ?_
  rintro v1 ⟨⟨_, hbv0⟩, rfl⟩
  clear hg
  clear I
  have A1 := A0.keep hbv0
  have B1 := B0.keep hbv0
  have ha1 := ha0.keep hbv0
  have hb1 := hb0.keep hbv0
  have hw1 := hw0.trans (hbv0.mono hw0.size)
  clear xa xb la lb A0 B0 ha0 hb0 hd
  go_wp2
  rw [rounds_succ]
  have xa := A1.cells
  have xb := B1.cells
  have la := A1.lt
  have lb := B1.lt
  have hd : (pp.t1 != qq.t1) = false := by have := Qt1.out; simp [this]
  have I := equI_g ha1.l1 hb1.l1 (decide_eq_true Ql1.out)
  go_wp2
  refine wp_region_grown (by kernel_rfl) (by kernel_rfl) ?_
  have hg := @gcell
  repeat (go_big_quiet_step (exact I _))
  refine wpQuiet_nil ?_
  rintro v2 ⟨⟨_, hbv1⟩, rfl⟩
  clear hg
  clear I
  have A2 := A1.keep hbv1
  have B2 := B1.keep hbv1
  have ha2 := ha1.keep hbv1
  have hb2 := hb1.keep hbv1
  have hw2 := hw1.trans (hbv1.mono hw1.size)
  clear xa xb la lb A1 B1 ha1 hb1 hd
  go_wp2
  rw [rounds_succ]
  have xa := A2.cells
  have xb := B2.cells
  have la := A2.lt
  have lb := B2.lt
  have hd : (pp.t2 != qq.t2) = false := by have := Qt2.out; simp [this]
  have I := equI_g ha2.l2 hb2.l2 (decide_eq_true Ql2.out)
  go_wp2
  refine wp_region_grown (by kernel_rfl) (by kernel_rfl) ?_
  have hg := @gcell
  repeat (go_big_quiet_step (exact I _))
  refine wpQuiet_nil ?_
  rintro v3 ⟨⟨_, hbv2⟩, rfl⟩
  clear hg
  clear I
  have A3 := A2.keep hbv2
  have B3 := B2.keep hbv2
  have ha3 := ha2.keep hbv2
  have hb3 := hb2.keep hbv2
  have hw3 := hw2.trans (hbv2.mono hw2.size)
  clear xa xb la lb A2 B2 ha2 hb2 hd
  go_wp2
  rw [rounds_succ]
  have xa := A3.cells
  have xb := B3.cells
  have la := A3.lt
  have lb := B3.lt
  clear e0 e1 e2 e3 e4 e5 e6 e7 e8 e9 e11 e12 e13 e14 e15 e16 e18 e19 e20 e21 e22 e23 e24 e25 e26 e27 e28 e30 e31 e32
  have hgd := guard_plain pp qq
  have hq := eql_plain pp qq
  have hp1 := Qpl.out
  simp only [hp1] at hq
  clear hp1
  have Irk := equI_g ha3.rk hb3.rk (decide_eq_true Qrk.out)
  have Ihl := equI_g ha3.hl hb3.hl (decide_eq_false Nhl.out)
  go_wp2
  refine wp_region_grown (by kernel_rfl) (by kernel_rfl) ?_
  have hg := @gcell
  (refine wpQuiet_load_row rfl 63 _ rfl (w.heap.size) rfl (wc ⟨pp, a1, a2, a3, a4, a5, a6⟩) 63 _ (by rintro _ ⟨n, rfl⟩; exact Bk.keep A3 n.2) Try.underlying63 rfl (by kernel_rfl) ?_; simp only [Act.put, List.setIfInBounds_toArray, List.set_cons_succ, List.set_cons_zero])
  go_big_quiet_step (exact grown_of (plainOf ⟨pp, a1, a2, a3, a4, a5, a6⟩ _))
  (refine wpQuiet_load_row rfl 63 _ rfl (w.heap.size + 1) rfl (wc ⟨qq, b1, b2, b3, b4, b5, b6⟩) 63 _ (by rintro _ ⟨n, rfl⟩; exact Bk.keep B3 n.2) Try.underlying63 rfl (by kernel_rfl) ?_; simp only [Act.put, List.setIfInBounds_toArray, List.set_cons_succ, List.set_cons_zero])
  go_big_quiet_step (exact grown_of (plainOf ⟨qq, b1, b2, b3, b4, b5, b6⟩ _))
  repeat (go_big_quiet_step (first | ((with_reducible exact Irk _)) | ((with_reducible exact Ihl _))))
  refine wpQuiet_nil ?_
  rintro u1 ⟨⟨_, hbu⟩, rfl⟩
  clear hg
  go_wp2
  go_ret
  exact ⟨rfl, hw3.trans (hbu.mono hw3.size)⟩
end Go.Proofs.Ytkplkhcboobfaaa.Wo
