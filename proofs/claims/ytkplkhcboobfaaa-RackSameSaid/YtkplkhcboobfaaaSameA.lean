/- rack.Same, end by end (made by gensame3.py). -/
import Derived.Test.YtkplkhcboobfaaaSameBase
namespace Go.Proofs.Ytkplkhcboobfaaa.Wo
open Go Go.RowKit Go.Proofs.Ytkplkhcboobfaaa.Gro Go.Proofs.Ytkplkhcboobfaaa.Own Go.Proofs.Ytkplkhcboobfaaa.Wd Go.Proofs.Ytkplkhcboobfaaa.Ap Go.Proofs.Ytkplkhcboobfaaa.Pl
set_option linter.unusedVariables false
set_option linter.unusedSimpArgs false
set_option maxRecDepth 100000 in
set_option maxHeartbeats 16000000 in
theorem rackSame_t0 (pp qq : Pl) (a1 a2 a3 a4 a5 a6 b1 b2 b3 b4 b5 b6 : Sl) (x y : St) (w : World) (ha : Lies w ⟨pp, a1, a2, a3, a4, a5, a6⟩ x) (hb : Lies w ⟨qq, b1, b2, b3, b4, b5, b6⟩ y)  (nt0 : ¬ pp.t0 = qq.t0) :
    Calls Try.prog 31 #[wv ⟨pp, a1, a2, a3, a4, a5, a6⟩, wv ⟨qq, b1, b2, b3, b4, b5, b6⟩] w fun e w' => e = .returned (.bool false) ∧ Below w.heap.size w w' := by
  have Nt0 := Lib.hid nt0
  clear nt0
  have e0 : ∀ s : Wk, (wc s)[0]? = some (.int .i64 s.p.ln) := fun _ => rfl
  have e1 : ∀ s : Wk, (wc s)[1]? = some (.int .i64 s.p.o0) := fun _ => rfl
  have e2 : ∀ s : Wk, (wc s)[2]? = some (.int .u64 s.p.o1) := fun _ => rfl
  have e3 : ∀ s : Wk, (wc s)[3]? = some (.int .u64 s.p.o2) := fun _ => rfl
  have e4 : ∀ s : Wk, (wc s)[4]? = some (.int .i64 s.p.o3) := fun _ => rfl
  have e5 : ∀ s : Wk, (wc s)[5]? = some (.bool s.p.o4) := fun _ => rfl
  have e6 : ∀ s : Wk, (wc s)[6]? = some (.int .i64 s.p.o5) := fun _ => rfl
  have e7 : ∀ s : Wk, (wc s)[7]? = some (.int .i64 s.p.o6) := fun _ => rfl
  have e8 : ∀ s : Wk, (wc s)[8]? = some (.bool s.p.pn) := fun _ => rfl
  have e9 : ∀ s : Wk, (wc s)[9]? = some (.int .u64 s.p.ep) := fun _ => rfl
  have e10 : ∀ s : Wk, (wc s)[10]? = some (.slice s.rk.ad s.rk.len s.rk.cap) := fun _ => rfl
  have e11 : ∀ s : Wk, (wc s)[11]? = some (.int .u64 s.p.t0) := fun _ => rfl
  have e12 : ∀ s : Wk, (wc s)[12]? = some (.slice s.l0.ad s.l0.len s.l0.cap) := fun _ => rfl
  have e13 : ∀ s : Wk, (wc s)[13]? = some (.int .u64 s.p.t1) := fun _ => rfl
  have e14 : ∀ s : Wk, (wc s)[14]? = some (.slice s.l1.ad s.l1.len s.l1.cap) := fun _ => rfl
  have e15 : ∀ s : Wk, (wc s)[15]? = some (.int .u64 s.p.t2) := fun _ => rfl
  have e16 : ∀ s : Wk, (wc s)[16]? = some (.slice s.l2.ad s.l2.len s.l2.cap) := fun _ => rfl
  have e17 : ∀ s : Wk, (wc s)[17]? = some (.slice s.hl.ad s.hl.len s.hl.cap) := fun _ => rfl
  have e18 : ∀ s : Wk, (wc s)[18]? = some (.int .i64 s.p.b) := fun _ => rfl
  have e19 : ∀ s : Wk, (wc s)[19]? = some (.int .i64 s.p.k) := fun _ => rfl
  have e20 : ∀ s : Wk, (wc s)[20]? = some (.int .i64 s.p.i) := fun _ => rfl
  have e21 : ∀ s : Wk, (wc s)[21]? = some (.int .i64 s.p.c) := fun _ => rfl
  have e22 : ∀ s : Wk, (wc s)[22]? = some (.int .i64 s.p.br) := fun _ => rfl
  have e23 : ∀ s : Wk, (wc s)[23]? = some (.int .u64 s.p.h) := fun _ => rfl
  have e24 : ∀ s : Wk, (wc s)[24]? = some (.int .u64 s.p.n) := fun _ => rfl
  have e25 : ∀ s : Wk, (wc s)[25]? = some (.int .u64 s.p.v) := fun _ => rfl
  have e26 : ∀ s : Wk, (wc s)[26]? = some (.int .u64 s.p.u) := fun _ => rfl
  have e27 : ∀ s : Wk, (wc s)[27]? = some (.int .u64 s.p.g) := fun _ => rfl
  have e28 : ∀ s : Wk, (wc s)[28]? = some (.int .i64 s.p.j) := fun _ => rfl
  have e29 : ∀ s : Wk, (wc s)[29]? = some (.slice s.rd.ad s.rd.len s.rd.cap) := fun _ => rfl
  have e30 : ∀ s : Wk, (wc s)[30]? = some (.int .u64 s.p.t) := fun _ => rfl
  have e31 : ∀ s : Wk, (wc s)[31]? = some (.int .i64 s.p.rt) := fun _ => rfl
  have e32 : ∀ s : Wk, (wc s)[32]? = some (.bool s.p.gv) := fun _ => rfl
  go_enter Try.func31, Try.ntmps31
  go_wp2
  have A0 := (Bk.new w (wc ⟨pp, a1, a2, a3, a4, a5, a6⟩) 63).alloc (.cells (wc ⟨qq, b1, b2, b3, b4, b5, b6⟩) 63)
  have B0 := Bk.new (w.alloc (.cells (wc ⟨pp, a1, a2, a3, a4, a5, a6⟩) 63)) (wc ⟨qq, b1, b2, b3, b4, b5, b6⟩) 63
  have hw0 : Below w.heap.size w ((w.alloc (.cells (wc ⟨pp, a1, a2, a3, a4, a5, a6⟩) 63)).alloc (.cells (wc ⟨qq, b1, b2, b3, b4, b5, b6⟩) 63)) := ((Below.refl _ _).alloc (Nat.le_refl _) _).alloc (by simp) _
  rw [show (w.alloc (.cells (wc ⟨pp, a1, a2, a3, a4, a5, a6⟩) 63)).heap.size = w.heap.size + 1 by simp] at B0
  have ha0 := ha.keep hw0
  have hb0 := hb.keep hw0
  generalize (w.alloc (.cells (wc ⟨pp, a1, a2, a3, a4, a5, a6⟩) 63)).alloc (.cells (wc ⟨qq, b1, b2, b3, b4, b5, b6⟩) 63) = v0 at *
  refine wp_loop_rounds 4 ?_
  rw [rounds_succ]
  have xa := A0.cells
  have xb := B0.cells
  have la := A0.lt
  have lb := B0.lt
  have hd : (pp.t0 != qq.t0) = true := by have := Nt0.out; simp [this]
  go_wp2
  refine wp_region_grown (by kernel_rfl) (by kernel_rfl) ?_
  have hg := @gcell
  repeat (go_big_quiet_step (fail))
  refine wpQuiet_nil ?_
  rintro u1 ⟨⟨_, hbu⟩, rfl⟩
  clear hg
  go_wp2
  go_ret
  exact ⟨rfl, hw0.trans (hbu.mono hw0.size)⟩
set_option maxRecDepth 100000 in
set_option maxHeartbeats 16000000 in
theorem rackSame_l0 (pp qq : Pl) (a1 a2 a3 a4 a5 a6 b1 b2 b3 b4 b5 b6 : Sl) (x y : St) (w : World) (ha : Lies w ⟨pp, a1, a2, a3, a4, a5, a6⟩ x) (hb : Lies w ⟨qq, b1, b2, b3, b4, b5, b6⟩ y) (qt0 : pp.t0 = qq.t0) (nl0 : ¬ x.l0 = y.l0) :
    Calls Try.prog 31 #[wv ⟨pp, a1, a2, a3, a4, a5, a6⟩, wv ⟨qq, b1, b2, b3, b4, b5, b6⟩] w fun e w' => e = .returned (.bool false) ∧ Below w.heap.size w w' := by
  have Qt0 := Lib.hid qt0
  clear qt0
  have Nl0 := Lib.hid nl0
  clear nl0
  have e0 : ∀ s : Wk, (wc s)[0]? = some (.int .i64 s.p.ln) := fun _ => rfl
  have e1 : ∀ s : Wk, (wc s)[1]? = some (.int .i64 s.p.o0) := fun _ => rfl
  have e2 : ∀ s : Wk, (wc s)[2]? = some (.int .u64 s.p.o1) := fun _ => rfl
  have e3 : ∀ s : Wk, (wc s)[3]? = some (.int .u64 s.p.o2) := fun _ => rfl
  have e4 : ∀ s : Wk, (wc s)[4]? = some (.int .i64 s.p.o3) := fun _ => rfl
  have e5 : ∀ s : Wk, (wc s)[5]? = some (.bool s.p.o4) := fun _ => rfl
  have e6 : ∀ s : Wk, (wc s)[6]? = some (.int .i64 s.p.o5) := fun _ => rfl
  have e7 : ∀ s : Wk, (wc s)[7]? = some (.int .i64 s.p.o6) := fun _ => rfl
  have e8 : ∀ s : Wk, (wc s)[8]? = some (.bool s.p.pn) := fun _ => rfl
  have e9 : ∀ s : Wk, (wc s)[9]? = some (.int .u64 s.p.ep) := fun _ => rfl
  have e10 : ∀ s : Wk, (wc s)[10]? = some (.slice s.rk.ad s.rk.len s.rk.cap) := fun _ => rfl
  have e11 : ∀ s : Wk, (wc s)[11]? = some (.int .u64 s.p.t0) := fun _ => rfl
  have e12 : ∀ s : Wk, (wc s)[12]? = some (.slice s.l0.ad s.l0.len s.l0.cap) := fun _ => rfl
  have e13 : ∀ s : Wk, (wc s)[13]? = some (.int .u64 s.p.t1) := fun _ => rfl
  have e14 : ∀ s : Wk, (wc s)[14]? = some (.slice s.l1.ad s.l1.len s.l1.cap) := fun _ => rfl
  have e15 : ∀ s : Wk, (wc s)[15]? = some (.int .u64 s.p.t2) := fun _ => rfl
  have e16 : ∀ s : Wk, (wc s)[16]? = some (.slice s.l2.ad s.l2.len s.l2.cap) := fun _ => rfl
  have e17 : ∀ s : Wk, (wc s)[17]? = some (.slice s.hl.ad s.hl.len s.hl.cap) := fun _ => rfl
  have e18 : ∀ s : Wk, (wc s)[18]? = some (.int .i64 s.p.b) := fun _ => rfl
  have e19 : ∀ s : Wk, (wc s)[19]? = some (.int .i64 s.p.k) := fun _ => rfl
  have e20 : ∀ s : Wk, (wc s)[20]? = some (.int .i64 s.p.i) := fun _ => rfl
  have e21 : ∀ s : Wk, (wc s)[21]? = some (.int .i64 s.p.c) := fun _ => rfl
  have e22 : ∀ s : Wk, (wc s)[22]? = some (.int .i64 s.p.br) := fun _ => rfl
  have e23 : ∀ s : Wk, (wc s)[23]? = some (.int .u64 s.p.h) := fun _ => rfl
  have e24 : ∀ s : Wk, (wc s)[24]? = some (.int .u64 s.p.n) := fun _ => rfl
  have e25 : ∀ s : Wk, (wc s)[25]? = some (.int .u64 s.p.v) := fun _ => rfl
  have e26 : ∀ s : Wk, (wc s)[26]? = some (.int .u64 s.p.u) := fun _ => rfl
  have e27 : ∀ s : Wk, (wc s)[27]? = some (.int .u64 s.p.g) := fun _ => rfl
  have e28 : ∀ s : Wk, (wc s)[28]? = some (.int .i64 s.p.j) := fun _ => rfl
  have e29 : ∀ s : Wk, (wc s)[29]? = some (.slice s.rd.ad s.rd.len s.rd.cap) := fun _ => rfl
  have e30 : ∀ s : Wk, (wc s)[30]? = some (.int .u64 s.p.t) := fun _ => rfl
  have e31 : ∀ s : Wk, (wc s)[31]? = some (.int .i64 s.p.rt) := fun _ => rfl
  have e32 : ∀ s : Wk, (wc s)[32]? = some (.bool s.p.gv) := fun _ => rfl
  go_enter Try.func31, Try.ntmps31
  go_wp2
  have A0 := (Bk.new w (wc ⟨pp, a1, a2, a3, a4, a5, a6⟩) 63).alloc (.cells (wc ⟨qq, b1, b2, b3, b4, b5, b6⟩) 63)
  have B0 := Bk.new (w.alloc (.cells (wc ⟨pp, a1, a2, a3, a4, a5, a6⟩) 63)) (wc ⟨qq, b1, b2, b3, b4, b5, b6⟩) 63
  have hw0 : Below w.heap.size w ((w.alloc (.cells (wc ⟨pp, a1, a2, a3, a4, a5, a6⟩) 63)).alloc (.cells (wc ⟨qq, b1, b2, b3, b4, b5, b6⟩) 63)) := ((Below.refl _ _).alloc (Nat.le_refl _) _).alloc (by simp) _
  rw [show (w.alloc (.cells (wc ⟨pp, a1, a2, a3, a4, a5, a6⟩) 63)).heap.size = w.heap.size + 1 by simp] at B0
  have ha0 := ha.keep hw0
  have hb0 := hb.keep hw0
  generalize (w.alloc (.cells (wc ⟨pp, a1, a2, a3, a4, a5, a6⟩) 63)).alloc (.cells (wc ⟨qq, b1, b2, b3, b4, b5, b6⟩) 63) = v0 at *
  refine wp_loop_rounds 4 ?_
  rw [rounds_succ]
  have xa := A0.cells
  have xb := B0.cells
  have la := A0.lt
  have lb := B0.lt
  have hd : (pp.t0 != qq.t0) = false := by have := Qt0.out; simp [this]
  have I := equI_g ha0.l0 hb0.l0 (decide_eq_false Nl0.out)
  go_wp2
  refine wp_region_grown (by kernel_rfl) (by kernel_rfl) ?_
  have hg := @gcell
  repeat (go_big_quiet_step (exact I _))
  refine wpQuiet_nil ?_
  rintro u1 ⟨⟨_, hbu⟩, rfl⟩
  clear hg
  go_wp2
  go_ret
  exact ⟨rfl, hw0.trans (hbu.mono hw0.size)⟩
set_option maxRecDepth 100000 in
set_option maxHeartbeats 16000000 in
theorem rackSame_t1 (pp qq : Pl) (a1 a2 a3 a4 a5 a6 b1 b2 b3 b4 b5 b6 : Sl) (x y : St) (w : World) (ha : Lies w ⟨pp, a1, a2, a3, a4, a5, a6⟩ x) (hb : Lies w ⟨qq, b1, b2, b3, b4, b5, b6⟩ y) (qt0 : pp.t0 = qq.t0) (ql0 : x.l0 = y.l0) (nt1 : ¬ pp.t1 = qq.t1) :
    Calls Try.prog 31 #[wv ⟨pp, a1, a2, a3, a4, a5, a6⟩, wv ⟨qq, b1, b2, b3, b4, b5, b6⟩] w fun e w' => e = .returned (.bool false) ∧ Below w.heap.size w w' := by
  have Qt0 := Lib.hid qt0
  clear qt0
  have Ql0 := Lib.hid ql0
  clear ql0
  have Nt1 := Lib.hid nt1
  clear nt1
  have e0 : ∀ s : Wk, (wc s)[0]? = some (.int .i64 s.p.ln) := fun _ => rfl
  have e1 : ∀ s : Wk, (wc s)[1]? = some (.int .i64 s.p.o0) := fun _ => rfl
  have e2 : ∀ s : Wk, (wc s)[2]? = some (.int .u64 s.p.o1) := fun _ => rfl
  have e3 : ∀ s : Wk, (wc s)[3]? = some (.int .u64 s.p.o2) := fun _ => rfl
  have e4 : ∀ s : Wk, (wc s)[4]? = some (.int .i64 s.p.o3) := fun _ => rfl
  have e5 : ∀ s : Wk, (wc s)[5]? = some (.bool s.p.o4) := fun _ => rfl
  have e6 : ∀ s : Wk, (wc s)[6]? = some (.int .i64 s.p.o5) := fun _ => rfl
  have e7 : ∀ s : Wk, (wc s)[7]? = some (.int .i64 s.p.o6) := fun _ => rfl
  have e8 : ∀ s : Wk, (wc s)[8]? = some (.bool s.p.pn) := fun _ => rfl
  have e9 : ∀ s : Wk, (wc s)[9]? = some (.int .u64 s.p.ep) := fun _ => rfl
  have e10 : ∀ s : Wk, (wc s)[10]? = some (.slice s.rk.ad s.rk.len s.rk.cap) := fun _ => rfl
  have e11 : ∀ s : Wk, (wc s)[11]? = some (.int .u64 s.p.t0) := fun _ => rfl
  have e12 : ∀ s : Wk, (wc s)[12]? = some (.slice s.l0.ad s.l0.len s.l0.cap) := fun _ => rfl
  have e13 : ∀ s : Wk, (wc s)[13]? = some (.int .u64 s.p.t1) := fun _ => rfl
  have e14 : ∀ s : Wk, (wc s)[14]? = some (.slice s.l1.ad s.l1.len s.l1.cap) := fun _ => rfl
  have e15 : ∀ s : Wk, (wc s)[15]? = some (.int .u64 s.p.t2) := fun _ => rfl
  have e16 : ∀ s : Wk, (wc s)[16]? = some (.slice s.l2.ad s.l2.len s.l2.cap) := fun _ => rfl
  have e17 : ∀ s : Wk, (wc s)[17]? = some (.slice s.hl.ad s.hl.len s.hl.cap) := fun _ => rfl
  have e18 : ∀ s : Wk, (wc s)[18]? = some (.int .i64 s.p.b) := fun _ => rfl
  have e19 : ∀ s : Wk, (wc s)[19]? = some (.int .i64 s.p.k) := fun _ => rfl
  have e20 : ∀ s : Wk, (wc s)[20]? = some (.int .i64 s.p.i) := fun _ => rfl
  have e21 : ∀ s : Wk, (wc s)[21]? = some (.int .i64 s.p.c) := fun _ => rfl
  have e22 : ∀ s : Wk, (wc s)[22]? = some (.int .i64 s.p.br) := fun _ => rfl
  have e23 : ∀ s : Wk, (wc s)[23]? = some (.int .u64 s.p.h) := fun _ => rfl
  have e24 : ∀ s : Wk, (wc s)[24]? = some (.int .u64 s.p.n) := fun _ => rfl
  have e25 : ∀ s : Wk, (wc s)[25]? = some (.int .u64 s.p.v) := fun _ => rfl
  have e26 : ∀ s : Wk, (wc s)[26]? = some (.int .u64 s.p.u) := fun _ => rfl
  have e27 : ∀ s : Wk, (wc s)[27]? = some (.int .u64 s.p.g) := fun _ => rfl
  have e28 : ∀ s : Wk, (wc s)[28]? = some (.int .i64 s.p.j) := fun _ => rfl
  have e29 : ∀ s : Wk, (wc s)[29]? = some (.slice s.rd.ad s.rd.len s.rd.cap) := fun _ => rfl
  have e30 : ∀ s : Wk, (wc s)[30]? = some (.int .u64 s.p.t) := fun _ => rfl
  have e31 : ∀ s : Wk, (wc s)[31]? = some (.int .i64 s.p.rt) := fun _ => rfl
  have e32 : ∀ s : Wk, (wc s)[32]? = some (.bool s.p.gv) := fun _ => rfl
  go_enter Try.func31, Try.ntmps31
  go_wp2
  have A0 := (Bk.new w (wc ⟨pp, a1, a2, a3, a4, a5, a6⟩) 63).alloc (.cells (wc ⟨qq, b1, b2, b3, b4, b5, b6⟩) 63)
  have B0 := Bk.new (w.alloc (.cells (wc ⟨pp, a1, a2, a3, a4, a5, a6⟩) 63)) (wc ⟨qq, b1, b2, b3, b4, b5, b6⟩) 63
  have hw0 : Below w.heap.size w ((w.alloc (.cells (wc ⟨pp, a1, a2, a3, a4, a5, a6⟩) 63)).alloc (.cells (wc ⟨qq, b1, b2, b3, b4, b5, b6⟩) 63)) := ((Below.refl _ _).alloc (Nat.le_refl _) _).alloc (by simp) _
  rw [show (w.alloc (.cells (wc ⟨pp, a1, a2, a3, a4, a5, a6⟩) 63)).heap.size = w.heap.size + 1 by simp] at B0
  have ha0 := ha.keep hw0
  have hb0 := hb.keep hw0
  generalize (w.alloc (.cells (wc ⟨pp, a1, a2, a3, a4, a5, a6⟩) 63)).alloc (.cells (wc ⟨qq, b1, b2, b3, b4, b5, b6⟩) 63) = v0 at *
  refine wp_loop_rounds 4 ?_
  rw [rounds_succ]
  have xa := A0.cells
  have xb := B0.cells
  have la := A0.lt
  have lb := B0.lt
  have hd : (pp.t0 != qq.t0) = false := by have := Qt0.out; simp [this]
  have I := equI_g ha0.l0 hb0.l0 (decide_eq_true Ql0.out)
  go_wp2
  refine wp_region_grown (by kernel_rfl) (by kernel_rfl) ?_
  have hg := @gcell
  repeat (go_big_quiet_step (exact I _))
  refine wpQuiet_nil ?_
  rintro v1 ⟨⟨_, hbv0⟩, rfl⟩
  clear hg
  clear I
  have A1 := A0.keep hbv0
  have B1 := B0.keep hbv0
  have ha1 := ha0.keep hbv0
  have hb1 := hb0.keep hbv0
  have hw1 := hw0.trans (hbv0.mono hw0.size)
  clear xa xb la lb A0 B0 ha0 hb0 hd
  go_wp2
  rw [rounds_succ]
  have xa := A1.cells
  have xb := B1.cells
  have la := A1.lt
  have lb := B1.lt
  have hd : (pp.t1 != qq.t1) = true := by have := Nt1.out; simp [this]
  go_wp2
  refine wp_region_grown (by kernel_rfl) (by kernel_rfl) ?_
  have hg := @gcell
  repeat (go_big_quiet_step (fail))
  refine wpQuiet_nil ?_
  rintro u1 ⟨⟨_, hbu⟩, rfl⟩
  clear hg
  go_wp2
  go_ret
  exact ⟨rfl, hw1.trans (hbu.mono hw1.size)⟩
set_option maxRecDepth 100000 in
set_option maxHeartbeats 16000000 in
theorem rackSame_l1 (pp qq : Pl) (a1 a2 a3 a4 a5 a6 b1 b2 b3 b4 b5 b6 : Sl) (x y : St) (w : World) (ha : Lies w ⟨pp, a1, a2, a3, a4, a5, a6⟩ x) (hb : Lies w ⟨qq, b1, b2, b3, b4, b5, b6⟩ y) (qt0 : pp.t0 = qq.t0) (ql0 : x.l0 = y.l0) (qt1 : pp.t1 = qq.t1) (nl1 : ¬ x.l1 = y.l1) :
    Calls Try.prog 31 #[wv ⟨pp, a1, a2, a3, a4, a5, a6⟩, wv ⟨qq, b1, b2, b3, b4, b5, b6⟩] w fun e w' => e = .returned (.bool false) ∧ Below w.heap.size w w' := by
  have Qt0 := Lib.hid qt0
  clear qt0
  have Ql0 := Lib.hid ql0
  clear ql0
  have Qt1 := Lib.hid qt1
  clear qt1
  have Nl1 := Lib.hid nl1
  clear nl1
  have e0 : ∀ s : Wk, (wc s)[0]? = some (.int .i64 s.p.ln) := fun _ => rfl
  have e1 : ∀ s : Wk, (wc s)[1]? = some (.int .i64 s.p.o0) := fun _ => rfl
  have e2 : ∀ s : Wk, (wc s)[2]? = some (.int .u64 s.p.o1) := fun _ => rfl
  have e3 : ∀ s : Wk, (wc s)[3]? = some (.int .u64 s.p.o2) := fun _ => rfl
  have e4 : ∀ s : Wk, (wc s)[4]? = some (.int .i64 s.p.o3) := fun _ => rfl
  have e5 : ∀ s : Wk, (wc s)[5]? = some (.bool s.p.o4) := fun _ => rfl
  have e6 : ∀ s : Wk, (wc s)[6]? = some (.int .i64 s.p.o5) := fun _ => rfl
  have e7 : ∀ s : Wk, (wc s)[7]? = some (.int .i64 s.p.o6) := fun _ => rfl
  have e8 : ∀ s : Wk, (wc s)[8]? = some (.bool s.p.pn) := fun _ => rfl
  have e9 : ∀ s : Wk, (wc s)[9]? = some (.int .u64 s.p.ep) := fun _ => rfl
  have e10 : ∀ s : Wk, (wc s)[10]? = some (.slice s.rk.ad s.rk.len s.rk.cap) := fun _ => rfl
  have e11 : ∀ s : Wk, (wc s)[11]? = some (.int .u64 s.p.t0) := fun _ => rfl
  have e12 : ∀ s : Wk, (wc s)[12]? = some (.slice s.l0.ad s.l0.len s.l0.cap) := fun _ => rfl
  have e13 : ∀ s : Wk, (wc s)[13]? = some (.int .u64 s.p.t1) := fun _ => rfl
  have e14 : ∀ s : Wk, (wc s)[14]? = some (.slice s.l1.ad s.l1.len s.l1.cap) := fun _ => rfl
  have e15 : ∀ s : Wk, (wc s)[15]? = some (.int .u64 s.p.t2) := fun _ => rfl
  have e16 : ∀ s : Wk, (wc s)[16]? = some (.slice s.l2.ad s.l2.len s.l2.cap) := fun _ => rfl
  have e17 : ∀ s : Wk, (wc s)[17]? = some (.slice s.hl.ad s.hl.len s.hl.cap) := fun _ => rfl
  have e18 : ∀ s : Wk, (wc s)[18]? = some (.int .i64 s.p.b) := fun _ => rfl
  have e19 : ∀ s : Wk, (wc s)[19]? = some (.int .i64 s.p.k) := fun _ => rfl
  have e20 : ∀ s : Wk, (wc s)[20]? = some (.int .i64 s.p.i) := fun _ => rfl
  have e21 : ∀ s : Wk, (wc s)[21]? = some (.int .i64 s.p.c) := fun _ => rfl
  have e22 : ∀ s : Wk, (wc s)[22]? = some (.int .i64 s.p.br) := fun _ => rfl
  have e23 : ∀ s : Wk, (wc s)[23]? = some (.int .u64 s.p.h) := fun _ => rfl
  have e24 : ∀ s : Wk, (wc s)[24]? = some (.int .u64 s.p.n) := fun _ => rfl
  have e25 : ∀ s : Wk, (wc s)[25]? = some (.int .u64 s.p.v) := fun _ => rfl
  have e26 : ∀ s : Wk, (wc s)[26]? = some (.int .u64 s.p.u) := fun _ => rfl
  have e27 : ∀ s : Wk, (wc s)[27]? = some (.int .u64 s.p.g) := fun _ => rfl
  have e28 : ∀ s : Wk, (wc s)[28]? = some (.int .i64 s.p.j) := fun _ => rfl
  have e29 : ∀ s : Wk, (wc s)[29]? = some (.slice s.rd.ad s.rd.len s.rd.cap) := fun _ => rfl
  have e30 : ∀ s : Wk, (wc s)[30]? = some (.int .u64 s.p.t) := fun _ => rfl
  have e31 : ∀ s : Wk, (wc s)[31]? = some (.int .i64 s.p.rt) := fun _ => rfl
  have e32 : ∀ s : Wk, (wc s)[32]? = some (.bool s.p.gv) := fun _ => rfl
  go_enter Try.func31, Try.ntmps31
  go_wp2
  have A0 := (Bk.new w (wc ⟨pp, a1, a2, a3, a4, a5, a6⟩) 63).alloc (.cells (wc ⟨qq, b1, b2, b3, b4, b5, b6⟩) 63)
  have B0 := Bk.new (w.alloc (.cells (wc ⟨pp, a1, a2, a3, a4, a5, a6⟩) 63)) (wc ⟨qq, b1, b2, b3, b4, b5, b6⟩) 63
  have hw0 : Below w.heap.size w ((w.alloc (.cells (wc ⟨pp, a1, a2, a3, a4, a5, a6⟩) 63)).alloc (.cells (wc ⟨qq, b1, b2, b3, b4, b5, b6⟩) 63)) := ((Below.refl _ _).alloc (Nat.le_refl _) _).alloc (by simp) _
  rw [show (w.alloc (.cells (wc ⟨pp, a1, a2, a3, a4, a5, a6⟩) 63)).heap.size = w.heap.size + 1 by simp] at B0
  have ha0 := ha.keep hw0
  have hb0 := hb.keep hw0
  generalize (w.alloc (.cells (wc ⟨pp, a1, a2, a3, a4, a5, a6⟩) 63)).alloc (.cells (wc ⟨qq, b1, b2, b3, b4, b5, b6⟩) 63) = v0 at *
  refine wp_loop_rounds 4 ?_
  rw [rounds_succ]
  have xa := A0.cells
  have xb := B0.cells
  have la := A0.lt
  have lb := B0.lt
  have hd : (pp.t0 != qq.t0) = false := by have := Qt0.out; simp [this]
  have I := equI_g ha0.l0 hb0.l0 (decide_eq_true Ql0.out)
  go_wp2
  refine wp_region_grown (by kernel_rfl) (by kernel_rfl) ?_
  have hg := @gcell
  repeat (go_big_quiet_step (exact I _))
  refine wpQuiet_nil ?_
  rintro v1 ⟨⟨_, hbv0⟩, rfl⟩
  clear hg
  clear I
  have A1 := A0.keep hbv0
  have B1 := B0.keep hbv0
  have ha1 := ha0.keep hbv0
  have hb1 := hb0.keep hbv0
  have hw1 := hw0.trans (hbv0.mono hw0.size)
  clear xa xb la lb A0 B0 ha0 hb0 hd
  go_wp2
  rw [rounds_succ]
  have xa := A1.cells
  have xb := B1.cells
  have la := A1.lt
  have lb := B1.lt
  have hd : (pp.t1 != qq.t1) = false := by have := Qt1.out; simp [this]
  have I := equI_g ha1.l1 hb1.l1 (decide_eq_false Nl1.out)
  go_wp2
  refine wp_region_grown (by kernel_rfl) (by kernel_rfl) ?_
  have hg := @gcell
  repeat (go_big_quiet_step (exact I _))
  refine wpQuiet_nil ?_
  rintro u1 ⟨⟨_, hbu⟩, rfl⟩
  clear hg
  go_wp2
  go_ret
  exact ⟨rfl, hw1.trans (hbu.mono hw1.size)⟩
set_option maxRecDepth 100000 in
set_option maxHeartbeats 16000000 in
theorem rackSame_t2 (pp qq : Pl) (a1 a2 a3 a4 a5 a6 b1 b2 b3 b4 b5 b6 : Sl) (x y : St) (w : World) (ha : Lies w ⟨pp, a1, a2, a3, a4, a5, a6⟩ x) (hb : Lies w ⟨qq, b1, b2, b3, b4, b5, b6⟩ y) (qt0 : pp.t0 = qq.t0) (ql0 : x.l0 = y.l0) (qt1 : pp.t1 = qq.t1) (ql1 : x.l1 = y.l1) (nt2 : ¬ pp.t2 = qq.t2) :
    Calls Try.prog 31 #[wv ⟨pp, a1, a2, a3, a4, a5, a6⟩, wv ⟨qq, b1, b2, b3, b4, b5, b6⟩] w fun e w' => e = .returned (.bool false) ∧ Below w.heap.size w w' := by
  have Qt0 := Lib.hid qt0
  clear qt0
  have Ql0 := Lib.hid ql0
  clear ql0
  have Qt1 := Lib.hid qt1
  clear qt1
  have Ql1 := Lib.hid ql1
  clear ql1
  have Nt2 := Lib.hid nt2
  clear nt2
  have e0 : ∀ s : Wk, (wc s)[0]? = some (.int .i64 s.p.ln) := fun _ => rfl
  have e1 : ∀ s : Wk, (wc s)[1]? = some (.int .i64 s.p.o0) := fun _ => rfl
  have e2 : ∀ s : Wk, (wc s)[2]? = some (.int .u64 s.p.o1) := fun _ => rfl
  have e3 : ∀ s : Wk, (wc s)[3]? = some (.int .u64 s.p.o2) := fun _ => rfl
  have e4 : ∀ s : Wk, (wc s)[4]? = some (.int .i64 s.p.o3) := fun _ => rfl
  have e5 : ∀ s : Wk, (wc s)[5]? = some (.bool s.p.o4) := fun _ => rfl
  have e6 : ∀ s : Wk, (wc s)[6]? = some (.int .i64 s.p.o5) := fun _ => rfl
  have e7 : ∀ s : Wk, (wc s)[7]? = some (.int .i64 s.p.o6) := fun _ => rfl
  have e8 : ∀ s : Wk, (wc s)[8]? = some (.bool s.p.pn) := fun _ => rfl
  have e9 : ∀ s : Wk, (wc s)[9]? = some (.int .u64 s.p.ep) := fun _ => rfl
  have e10 : ∀ s : Wk, (wc s)[10]? = some (.slice s.rk.ad s.rk.len s.rk.cap) := fun _ => rfl
  have e11 : ∀ s : Wk, (wc s)[11]? = some (.int .u64 s.p.t0) := fun _ => rfl
  have e12 : ∀ s : Wk, (wc s)[12]? = some (.slice s.l0.ad s.l0.len s.l0.cap) := fun _ => rfl
  have e13 : ∀ s : Wk, (wc s)[13]? = some (.int .u64 s.p.t1) := fun _ => rfl
  have e14 : ∀ s : Wk, (wc s)[14]? = some (.slice s.l1.ad s.l1.len s.l1.cap) := fun _ => rfl
  have e15 : ∀ s : Wk, (wc s)[15]? = some (.int .u64 s.p.t2) := fun _ => rfl
  have e16 : ∀ s : Wk, (wc s)[16]? = some (.slice s.l2.ad s.l2.len s.l2.cap) := fun _ => rfl
  have e17 : ∀ s : Wk, (wc s)[17]? = some (.slice s.hl.ad s.hl.len s.hl.cap) := fun _ => rfl
  have e18 : ∀ s : Wk, (wc s)[18]? = some (.int .i64 s.p.b) := fun _ => rfl
  have e19 : ∀ s : Wk, (wc s)[19]? = some (.int .i64 s.p.k) := fun _ => rfl
  have e20 : ∀ s : Wk, (wc s)[20]? = some (.int .i64 s.p.i) := fun _ => rfl
  have e21 : ∀ s : Wk, (wc s)[21]? = some (.int .i64 s.p.c) := fun _ => rfl
  have e22 : ∀ s : Wk, (wc s)[22]? = some (.int .i64 s.p.br) := fun _ => rfl
  have e23 : ∀ s : Wk, (wc s)[23]? = some (.int .u64 s.p.h) := fun _ => rfl
  have e24 : ∀ s : Wk, (wc s)[24]? = some (.int .u64 s.p.n) := fun _ => rfl
  have e25 : ∀ s : Wk, (wc s)[25]? = some (.int .u64 s.p.v) := fun _ => rfl
  have e26 : ∀ s : Wk, (wc s)[26]? = some (.int .u64 s.p.u) := fun _ => rfl
  have e27 : ∀ s : Wk, (wc s)[27]? = some (.int .u64 s.p.g) := fun _ => rfl
  have e28 : ∀ s : Wk, (wc s)[28]? = some (.int .i64 s.p.j) := fun _ => rfl
  have e29 : ∀ s : Wk, (wc s)[29]? = some (.slice s.rd.ad s.rd.len s.rd.cap) := fun _ => rfl
  have e30 : ∀ s : Wk, (wc s)[30]? = some (.int .u64 s.p.t) := fun _ => rfl
  have e31 : ∀ s : Wk, (wc s)[31]? = some (.int .i64 s.p.rt) := fun _ => rfl
  have e32 : ∀ s : Wk, (wc s)[32]? = some (.bool s.p.gv) := fun _ => rfl
  go_enter Try.func31, Try.ntmps31
  go_wp2
  have A0 := (Bk.new w (wc ⟨pp, a1, a2, a3, a4, a5, a6⟩) 63).alloc (.cells (wc ⟨qq, b1, b2, b3, b4, b5, b6⟩) 63)
  have B0 := Bk.new (w.alloc (.cells (wc ⟨pp, a1, a2, a3, a4, a5, a6⟩) 63)) (wc ⟨qq, b1, b2, b3, b4, b5, b6⟩) 63
  have hw0 : Below w.heap.size w ((w.alloc (.cells (wc ⟨pp, a1, a2, a3, a4, a5, a6⟩) 63)).alloc (.cells (wc ⟨qq, b1, b2, b3, b4, b5, b6⟩) 63)) := ((Below.refl _ _).alloc (Nat.le_refl _) _).alloc (by simp) _
  rw [show (w.alloc (.cells (wc ⟨pp, a1, a2, a3, a4, a5, a6⟩) 63)).heap.size = w.heap.size + 1 by simp] at B0
  have ha0 := ha.keep hw0
  have hb0 := hb.keep hw0
  generalize (w.alloc (.cells (wc ⟨pp, a1, a2, a3, a4, a5, a6⟩) 63)).alloc (.cells (wc ⟨qq, b1, b2, b3, b4, b5, b6⟩) 63) = v0 at *
  refine wp_loop_rounds 4 ?_
  rw [rounds_succ]
  have xa := A0.cells
  have xb := B0.cells
  have la := A0.lt
  have lb := B0.lt
  have hd : (pp.t0 != qq.t0) = false := by have := Qt0.out; simp [this]
  have I := equI_g ha0.l0 hb0.l0 (decide_eq_true Ql0.out)
  go_wp2
  refine wp_region_grown (by kernel_rfl) (by kernel_rfl) ?_
  have hg := @gcell
  repeat (go_big_quiet_step (exact I _))
  refine wpQuiet_nil ?_
  rintro v1 ⟨⟨_, hbv0⟩, rfl⟩
  clear hg
  clear I
  have A1 := A0.keep hbv0
  have B1 := B0.keep hbv0
  have ha1 := ha0.keep hbv0
  have hb1 := hb0.keep hbv0
  have hw1 := hw0.trans (hbv0.mono hw0.size)
  clear xa xb la lb A0 B0 ha0 hb0 hd
  go_wp2
  rw [rounds_succ]
  have xa := A1.cells
  have xb := B1.cells
  have la := A1.lt
  have lb := B1.lt
  have hd : (pp.t1 != qq.t1) = false := by have := Qt1.out; simp [this]
  have I := equI_g ha1.l1 hb1.l1 (decide_eq_true Ql1.out)
  go_wp2
  refine wp_region_grown (by kernel_rfl) (by kernel_rfl) ?_
  have hg := @gcell
  repeat (go_big_quiet_step (exact I _))
  refine wpQuiet_nil ?_
  rintro v2 ⟨⟨_, hbv1⟩, rfl⟩
  clear hg
  clear I
  have A2 := A1.keep hbv1
  have B2 := B1.keep hbv1
  have ha2 := ha1.keep hbv1
  have hb2 := hb1.keep hbv1
  have hw2 := hw1.trans (hbv1.mono hw1.size)
  clear xa xb la lb A1 B1 ha1 hb1 hd
  go_wp2
  rw [rounds_succ]
  have xa := A2.cells
  have xb := B2.cells
  have la := A2.lt
  have lb := B2.lt
  have hd : (pp.t2 != qq.t2) = true := by have := Nt2.out; simp [this]
  go_wp2
  refine wp_region_grown (by kernel_rfl) (by kernel_rfl) ?_
  have hg := @gcell
  repeat (go_big_quiet_step (fail))
  refine wpQuiet_nil ?_
  rintro u1 ⟨⟨_, hbu⟩, rfl⟩
  clear hg
  go_wp2
  go_ret
  exact ⟨rfl, hw2.trans (hbu.mono hw2.size)⟩
set_option maxRecDepth 100000 in
set_option maxHeartbeats 16000000 in
theorem rackSame_l2 (pp qq : Pl) (a1 a2 a3 a4 a5 a6 b1 b2 b3 b4 b5 b6 : Sl) (x y : St) (w : World) (ha : Lies w ⟨pp, a1, a2, a3, a4, a5, a6⟩ x) (hb : Lies w ⟨qq, b1, b2, b3, b4, b5, b6⟩ y) (qt0 : pp.t0 = qq.t0) (ql0 : x.l0 = y.l0) (qt1 : pp.t1 = qq.t1) (ql1 : x.l1 = y.l1) (qt2 : pp.t2 = qq.t2) (nl2 : ¬ x.l2 = y.l2) :
    Calls Try.prog 31 #[wv ⟨pp, a1, a2, a3, a4, a5, a6⟩, wv ⟨qq, b1, b2, b3, b4, b5, b6⟩] w fun e w' => e = .returned (.bool false) ∧ Below w.heap.size w w' := by
  have Qt0 := Lib.hid qt0
  clear qt0
  have Ql0 := Lib.hid ql0
  clear ql0
  have Qt1 := Lib.hid qt1
  clear qt1
  have Ql1 := Lib.hid ql1
  clear ql1
  have Qt2 := Lib.hid qt2
  clear qt2
  have Nl2 := Lib.hid nl2
  clear nl2
  have e0 : ∀ s : Wk, (wc s)[0]? = some (.int .i64 s.p.ln) := fun _ => rfl
  have e1 : ∀ s : Wk, (wc s)[1]? = some (.int .i64 s.p.o0) := fun _ => rfl
  have e2 : ∀ s : Wk, (wc s)[2]? = some (.int .u64 s.p.o1) := fun _ => rfl
  have e3 : ∀ s : Wk, (wc s)[3]? = some (.int .u64 s.p.o2) := fun _ => rfl
  have e4 : ∀ s : Wk, (wc s)[4]? = some (.int .i64 s.p.o3) := fun _ => rfl
  have e5 : ∀ s : Wk, (wc s)[5]? = some (.bool s.p.o4) := fun _ => rfl
  have e6 : ∀ s : Wk, (wc s)[6]? = some (.int .i64 s.p.o5) := fun _ => rfl
  have e7 : ∀ s : Wk, (wc s)[7]? = some (.int .i64 s.p.o6) := fun _ => rfl
  have e8 : ∀ s : Wk, (wc s)[8]? = some (.bool s.p.pn) := fun _ => rfl
  have e9 : ∀ s : Wk, (wc s)[9]? = some (.int .u64 s.p.ep) := fun _ => rfl
  have e10 : ∀ s : Wk, (wc s)[10]? = some (.slice s.rk.ad s.rk.len s.rk.cap) := fun _ => rfl
  have e11 : ∀ s : Wk, (wc s)[11]? = some (.int .u64 s.p.t0) := fun _ => rfl
  have e12 : ∀ s : Wk, (wc s)[12]? = some (.slice s.l0.ad s.l0.len s.l0.cap) := fun _ => rfl
  have e13 : ∀ s : Wk, (wc s)[13]? = some (.int .u64 s.p.t1) := fun _ => rfl
  have e14 : ∀ s : Wk, (wc s)[14]? = some (.slice s.l1.ad s.l1.len s.l1.cap) := fun _ => rfl
  have e15 : ∀ s : Wk, (wc s)[15]? = some (.int .u64 s.p.t2) := fun _ => rfl
  have e16 : ∀ s : Wk, (wc s)[16]? = some (.slice s.l2.ad s.l2.len s.l2.cap) := fun _ => rfl
  have e17 : ∀ s : Wk, (wc s)[17]? = some (.slice s.hl.ad s.hl.len s.hl.cap) := fun _ => rfl
  have e18 : ∀ s : Wk, (wc s)[18]? = some (.int .i64 s.p.b) := fun _ => rfl
  have e19 : ∀ s : Wk, (wc s)[19]? = some (.int .i64 s.p.k) := fun _ => rfl
  have e20 : ∀ s : Wk, (wc s)[20]? = some (.int .i64 s.p.i) := fun _ => rfl
  have e21 : ∀ s : Wk, (wc s)[21]? = some (.int .i64 s.p.c) := fun _ => rfl
  have e22 : ∀ s : Wk, (wc s)[22]? = some (.int .i64 s.p.br) := fun _ => rfl
  have e23 : ∀ s : Wk, (wc s)[23]? = some (.int .u64 s.p.h) := fun _ => rfl
  have e24 : ∀ s : Wk, (wc s)[24]? = some (.int .u64 s.p.n) := fun _ => rfl
  have e25 : ∀ s : Wk, (wc s)[25]? = some (.int .u64 s.p.v) := fun _ => rfl
  have e26 : ∀ s : Wk, (wc s)[26]? = some (.int .u64 s.p.u) := fun _ => rfl
  have e27 : ∀ s : Wk, (wc s)[27]? = some (.int .u64 s.p.g) := fun _ => rfl
  have e28 : ∀ s : Wk, (wc s)[28]? = some (.int .i64 s.p.j) := fun _ => rfl
  have e29 : ∀ s : Wk, (wc s)[29]? = some (.slice s.rd.ad s.rd.len s.rd.cap) := fun _ => rfl
  have e30 : ∀ s : Wk, (wc s)[30]? = some (.int .u64 s.p.t) := fun _ => rfl
  have e31 : ∀ s : Wk, (wc s)[31]? = some (.int .i64 s.p.rt) := fun _ => rfl
  have e32 : ∀ s : Wk, (wc s)[32]? = some (.bool s.p.gv) := fun _ => rfl
  go_enter Try.func31, Try.ntmps31
  go_wp2
  have A0 := (Bk.new w (wc ⟨pp, a1, a2, a3, a4, a5, a6⟩) 63).alloc (.cells (wc ⟨qq, b1, b2, b3, b4, b5, b6⟩) 63)
  have B0 := Bk.new (w.alloc (.cells (wc ⟨pp, a1, a2, a3, a4, a5, a6⟩) 63)) (wc ⟨qq, b1, b2, b3, b4, b5, b6⟩) 63
  have hw0 : Below w.heap.size w ((w.alloc (.cells (wc ⟨pp, a1, a2, a3, a4, a5, a6⟩) 63)).alloc (.cells (wc ⟨qq, b1, b2, b3, b4, b5, b6⟩) 63)) := ((Below.refl _ _).alloc (Nat.le_refl _) _).alloc (by simp) _
  rw [show (w.alloc (.cells (wc ⟨pp, a1, a2, a3, a4, a5, a6⟩) 63)).heap.size = w.heap.size + 1 by simp] at B0
  have ha0 := ha.keep hw0
  have hb0 := hb.keep hw0
  generalize (w.alloc (.cells (wc ⟨pp, a1, a2, a3, a4, a5, a6⟩) 63)).alloc (.cells (wc ⟨qq, b1, b2, b3, b4, b5, b6⟩) 63) = v0 at *
  refine wp_loop_rounds 4 ?_
  rw [rounds_succ]
  have xa := A0.cells
  have xb := B0.cells
  have la := A0.lt
  have lb := B0.lt
  have hd : (pp.t0 != qq.t0) = false := by have := Qt0.out; simp [this]
  have I := equI_g ha0.l0 hb0.l0 (decide_eq_true Ql0.out)
  go_wp2
  refine wp_region_grown (by kernel_rfl) (by kernel_rfl) ?_
  have hg := @gcell
  repeat (go_big_quiet_step (exact I _))
  refine wpQuiet_nil ?_
  rintro v1 ⟨⟨_, hbv0⟩, rfl⟩
  clear hg
  clear I
  have A1 := A0.keep hbv0
  have B1 := B0.keep hbv0
  have ha1 := ha0.keep hbv0
  have hb1 := hb0.keep hbv0
  have hw1 := hw0.trans (hbv0.mono hw0.size)
  clear xa xb la lb A0 B0 ha0 hb0 hd
  go_wp2
  rw [rounds_succ]
  have xa := A1.cells
  have xb := B1.cells
  have la := A1.lt
  have lb := B1.lt
  have hd : (pp.t1 != qq.t1) = false := by have := Qt1.out; simp [this]
  have I := equI_g ha1.l1 hb1.l1 (decide_eq_true Ql1.out)
  go_wp2
  refine wp_region_grown (by kernel_rfl) (by kernel_rfl) ?_
  have hg := @gcell
  repeat (go_big_quiet_step (exact I _))
  refine wpQuiet_nil ?_
  rintro v2 ⟨⟨_, hbv1⟩, rfl⟩
  clear hg
  clear I
  have A2 := A1.keep hbv1
  have B2 := B1.keep hbv1
  have ha2 := ha1.keep hbv1
  have hb2 := hb1.keep hbv1
  have hw2 := hw1.trans (hbv1.mono hw1.size)
  clear xa xb la lb A1 B1 ha1 hb1 hd
  go_wp2
  rw [rounds_succ]
  have xa := A2.cells
  have xb := B2.cells
  have la := A2.lt
  have lb := B2.lt
  have hd : (pp.t2 != qq.t2) = false := by have := Qt2.out; simp [this]
  have I := equI_g ha2.l2 hb2.l2 (decide_eq_false Nl2.out)
  go_wp2
  refine wp_region_grown (by kernel_rfl) (by kernel_rfl) ?_
  have hg := @gcell
  repeat (go_big_quiet_step (exact I _))
  refine wpQuiet_nil ?_
  rintro u1 ⟨⟨_, hbu⟩, rfl⟩
  clear hg
  go_wp2
  go_ret
  exact ⟨rfl, hw2.trans (hbu.mono hw2.size)⟩
end Go.Proofs.Ytkplkhcboobfaaa.Wo
