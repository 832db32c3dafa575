/- Part Env. -/
import Derived.Test.YtaiodbcnbcdokaaGreatKWorks
set_option linter.unusedVariables false
set_option linter.unusedSimpArgs false
set_option linter.unusedSectionVars false
set_option maxRecDepth 100000
set_option maxHeartbeats 16000000
section
namespace Go.Proofs.YtaiodbcnbcdokaaGreat.Wo
open Go Go.RowKit Gro Own Wd Ap Go.Proofs.YtaiodbcnbcdokaaGreat.Pl
theorem ints_true {w : World} {v1 v2 : Value} {l : List Int} (h1 : Reads w .i64 v1 l) (h2 : Reads w .i64 v2 l) : Calls Tryz.prog 102 #[v1, v2] w fun e w' => e = .returned (.bool true) ∧ Below w.heap.size w w' := by
 have h := ints h1 h2
 rwa [decide_eq_true rfl] at h
theorem words_true {w : World} {v1 v2 : Value} {l : List Int} (h1 : Reads w .u64 v1 l) (h2 : Reads w .u64 v2 l) : Calls Tryz.prog 33 #[v1, v2] w fun e w' => e = .returned (.bool true) ∧ Below w.heap.size w w' := by
 have h := same h1 h2
 rwa [decide_eq_true rfl] at h
theorem ints_grown {w : World} {v1 v2 : Value} {l : List Int} (h1 : Reads w .i64 v1 l) (h2 : Reads w .i64 v2 l) (n : Gr w) : Calls Tryz.prog 102 #[v1, v2] n.1 fun e w'' => e = .returned (.bool true) ∧ ∃ m : Gr w, w'' = m.1 :=
 grown_of (ints_true (h1.keep n.2) (h2.keep n.2))
end Go.Proofs.YtaiodbcnbcdokaaGreat.Wo
end
section
namespace Go.Proofs.YtaiodbcnbcdokaaGreat.Wo
open Go Go.RowKit Gro Own Wd Ap Go.Proofs.YtaiodbcnbcdokaaGreat.Pl
theorem refSame_true (pp : Pl) (a1 a2 a3 a4 a5 a6 b1 b2 b3 b4 b5 b6 : Sl) (x : St) (w : World) (ha : aP w ⟨pp, a1, a2, a3, a4, a5, a6⟩ x) (hb : aP w ⟨pp, b1, b2, b3, b4, b5, b6⟩ x) :
  Calls Tryz.prog 66 #[wv ⟨pp, a1, a2, a3, a4, a5, a6⟩, wv ⟨pp, b1, b2, b3, b4, b5, b6⟩] w fun e w' => e = .returned (.bool true) ∧ Below w.heap.size w w' := by
 have e0 : ∀ s : Wk, (wc s)[0]? = some (.int .i64 s.p.ln) := fun _ => rfl
 have e1 : ∀ s : Wk, (wc s)[1]? = some (.int .i64 s.p.o0) := fun _ => rfl
 have e2 : ∀ s : Wk, (wc s)[2]? = some (.int .u64 s.p.o1) := fun _ => rfl
 have e3 : ∀ s : Wk, (wc s)[3]? = some (.int .u64 s.p.o2) := fun _ => rfl
 have e4 : ∀ s : Wk, (wc s)[4]? = some (.int .i64 s.p.o3) := fun _ => rfl
 have e5 : ∀ s : Wk, (wc s)[5]? = some (.bool s.p.o4) := fun _ => rfl
 have e6 : ∀ s : Wk, (wc s)[6]? = some (.int .i64 s.p.o5) := fun _ => rfl
 have e7 : ∀ s : Wk, (wc s)[7]? = some (.int .i64 s.p.o6) := fun _ => rfl
 have e8 : ∀ s : Wk, (wc s)[8]? = some (.bool s.p.pn) := fun _ => rfl
 have e9 : ∀ s : Wk, (wc s)[9]? = some (.int .u64 s.p.ep) := fun _ => rfl
 have e10 : ∀ s : Wk, (wc s)[10]? = some (.slice s.rk.ad s.rk.len s.rk.cap) := fun _ => rfl
 have e11 : ∀ s : Wk, (wc s)[11]? = some (.int .u64 s.p.t0) := fun _ => rfl
 have e12 : ∀ s : Wk, (wc s)[12]? = some (.slice s.l0.ad s.l0.len s.l0.cap) := fun _ => rfl
 have e13 : ∀ s : Wk, (wc s)[13]? = some (.int .u64 s.p.t1) := fun _ => rfl
 have e14 : ∀ s : Wk, (wc s)[14]? = some (.slice s.l1.ad s.l1.len s.l1.cap) := fun _ => rfl
 have e15 : ∀ s : Wk, (wc s)[15]? = some (.int .u64 s.p.t2) := fun _ => rfl
 have e16 : ∀ s : Wk, (wc s)[16]? = some (.slice s.l2.ad s.l2.len s.l2.cap) := fun _ => rfl
 have e17 : ∀ s : Wk, (wc s)[17]? = some (.slice s.hl.ad s.hl.len s.hl.cap) := fun _ => rfl
 have e18 : ∀ s : Wk, (wc s)[18]? = some (.int .i64 s.p.b) := fun _ => rfl
 have e19 : ∀ s : Wk, (wc s)[19]? = some (.int .i64 s.p.k) := fun _ => rfl
 have e20 : ∀ s : Wk, (wc s)[20]? = some (.int .i64 s.p.i) := fun _ => rfl
 have e21 : ∀ s : Wk, (wc s)[21]? = some (.int .i64 s.p.c) := fun _ => rfl
 have e22 : ∀ s : Wk, (wc s)[22]? = some (.int .i64 s.p.br) := fun _ => rfl
 have e23 : ∀ s : Wk, (wc s)[23]? = some (.int .u64 s.p.h) := fun _ => rfl
 have e24 : ∀ s : Wk, (wc s)[24]? = some (.int .u64 s.p.n) := fun _ => rfl
 have e25 : ∀ s : Wk, (wc s)[25]? = some (.int .u64 s.p.v) := fun _ => rfl
 have e26 : ∀ s : Wk, (wc s)[26]? = some (.int .u64 s.p.u) := fun _ => rfl
 have e27 : ∀ s : Wk, (wc s)[27]? = some (.int .u64 s.p.g) := fun _ => rfl
 have e28 : ∀ s : Wk, (wc s)[28]? = some (.int .i64 s.p.j) := fun _ => rfl
 have e29 : ∀ s : Wk, (wc s)[29]? = some (.slice s.rd.ad s.rd.len s.rd.cap) := fun _ => rfl
 have e30 : ∀ s : Wk, (wc s)[30]? = some (.int .u64 s.p.t) := fun _ => rfl
 have e31 : ∀ s : Wk, (wc s)[31]? = some (.int .i64 s.p.rt) := fun _ => rfl
 have e32 : ∀ s : Wk, (wc s)[32]? = some (.bool s.p.gv) := fun _ => rfl
 go_enter Tryz.func66, Tryz.ntmps66
 go_wp2
 have A0 := (Bk.new w (wc ⟨pp, a1, a2, a3, a4, a5, a6⟩) 46).alloc (.cells (wc ⟨pp, b1, b2, b3, b4, b5, b6⟩) 46)
 have B0 := Bk.new (w.alloc (.cells (wc ⟨pp, a1, a2, a3, a4, a5, a6⟩) 46)) (wc ⟨pp, b1, b2, b3, b4, b5, b6⟩) 46
 have hw0 : Below w.heap.size w ((w.alloc (.cells (wc ⟨pp, a1, a2, a3, a4, a5, a6⟩) 46)).alloc (.cells (wc ⟨pp, b1, b2, b3, b4, b5, b6⟩) 46)) := ((Below.refl _ _).alloc (Nat.le_refl _) _).alloc aF _
 rw [show (w.alloc (.cells (wc ⟨pp, a1, a2, a3, a4, a5, a6⟩) 46)).heap.size = w.heap.size + 1 by simp] at B0
 have ha0 := ha.keep hw0
 have hb0 := hb.keep hw0
 generalize (w.alloc (.cells (wc ⟨pp, a1, a2, a3, a4, a5, a6⟩) 46)).alloc (.cells (wc ⟨pp, b1, b2, b3, b4, b5, b6⟩) 46) = v0 at *
 refine wp_loop_rounds 4 ?_
 rw [rounds_succ]
 have xa := A0.cells
 have xb := B0.cells
 have la := A0.lt
 have lb := B0.lt
 have I0 := ints_grown ha0.l0 hb0.l0
 go_wp2
 refine aN ah ah ?_
 have hg := @cK
 repeat (go_big_quiet_step (exact I0 _))
 refine wpQuiet_nil ?_
 rintro v1 ⟨⟨_, hb1'⟩, rfl⟩
 clear hg I0
 have A1 := A0.keep hb1'
 have B1 := B0.keep hb1'
 have ha1 := ha0.keep hb1'
 have hb1 := hb0.keep hb1'
 have hw1 := hw0.trans (hb1'.mono hw0.size)
 clear xa xb la lb A0 B0 ha0 hb0
 go_wp2
 rw [rounds_succ]
 have xa := A1.cells
 have xb := B1.cells
 have la := A1.lt
 have lb := B1.lt
 have I1 := ints_grown ha1.l1 hb1.l1
 go_wp2
 refine aN ah ah ?_
 have hg := @cK
 repeat (go_big_quiet_step (exact I1 _))
 refine wpQuiet_nil ?_
 rintro v2 ⟨⟨_, hb2'⟩, rfl⟩
 clear hg I1
 have A2 := A1.keep hb2'
 have B2 := B1.keep hb2'
 have ha2 := ha1.keep hb2'
 have hb2 := hb1.keep hb2'
 have hw2 := hw1.trans (hb2'.mono hw1.size)
 clear xa xb la lb A1 B1 ha1 hb1
 go_wp2
 rw [rounds_succ]
 have xa := A2.cells
 have xb := B2.cells
 have la := A2.lt
 have lb := B2.lt
 have I2 := ints_grown ha2.l2 hb2.l2
 go_wp2
 refine aN ah ah ?_
 have hg := @cK
 repeat (go_big_quiet_step (exact I2 _))
 refine wpQuiet_nil ?_
 rintro v3 ⟨⟨_, hb3'⟩, rfl⟩
 clear hg I2
 have A3 := A2.keep hb3'
 have B3 := B2.keep hb3'
 have ha3 := ha2.keep hb3'
 have hb3 := hb2.keep hb3'
 have hw3 := hw2.trans (hb3'.mono hw2.size)
 clear xa xb la lb A2 B2 ha2 hb2
 go_wp2
 rw [rounds_succ]
 have xa := A3.cells
 have xb := B3.cells
 go_wp2_with fail
 refine (ints_true ha3.rk hb3.rk).mono ?_
 rintro e v4 ⟨rfl, hb4'⟩
 have A4 := A3.keep hb4'
 have B4 := B3.keep hb4'
 have ha4 := ha3.keep hb4'
 have hb4 := hb3.keep hb4'
 have hw4 := hw3.trans (hb4'.mono hw3.size)
 clear xa xb
 have xa := A4.cells
 have xb := B4.cells
 go_wp2_with fail
 refine (ints_true ha4.hl hb4.hl).mono ?_
 rintro e v5 ⟨rfl, hb5'⟩
 have A5 := A4.keep hb5'
 have B5 := B4.keep hb5'
 have ha5 := ha4.keep hb5'
 have hb5 := hb4.keep hb5'
 have hw5 := hw4.trans (hb5'.mono hw4.size)
 clear xa xb
 have xa := A5.cells
 have xb := B5.cells
 go_wp2_with fail
 refine (words_true ha5.rd hb5.rd).mono ?_
 rintro e v6 ⟨rfl, hb6'⟩
 go_wp2
 go_ret
 exact ⟨rfl, hw5.trans (hb6'.mono hw5.size)⟩
theorem refSame {s t : Wk} {x : St} {w : World} (hs : aP w s x) (ht : aP w t x) : Calls Tryz.prog 66 #[wv s, wv t] w fun e w' => e = .returned (.bool true) ∧ Below w.heap.size w w' := by
 obtain ⟨p1, a1, a2, a3, a4, a5, a6⟩ := s
 obtain ⟨p2, b1, b2, b3, b4, b5, b6⟩ := t
 have e : p1 = p2 := hs.p.trans ht.p.symm
 subst e
 exact refSame_true p1 a1 a2 a3 a4 a5 a6 b1 b2 b3 b4 b5 b6 x w hs ht
end Go.Proofs.YtaiodbcnbcdokaaGreat.Wo
end
section
namespace Go.Proofs.YtaiodbcnbcdokaaGreat.Wo
open Go Go.RowKit Gro Own Wd Ap Go.Proofs.YtaiodbcnbcdokaaGreat.Pl
structure Env (w0 : World) (c : Cfg) (l : List (Nat × Wk × St)) (w : World) : Prop where
 C : Bk w w0.heap.size (ccW c) 24
 E : ∀ e ∈ l, Bk w e.1 (wc e.2.1) 46 ∧ aP w e.2.1 e.2.2
 below : Below w0.heap.size w0 w
section
variable {w0 w w' : World} {c : Cfg} {l : List (Nat × Wk × St)} {g : Nat} {s : Wk} {x : St}
theorem Env.bk (h : Env w0 c l w) (hm : (g, s, x) ∈ l) : Bk w g (wc s) 46 := (h.E _ hm).1
theorem Env.lies (h : Env w0 c l w) (hm : (g, s, x) ∈ l) : aP w s x := (h.E _ hm).2
theorem Env.keep (h : Env w0 c l w) (hb : Below w.heap.size w w') : Env w0 c l w' := ⟨h.C.keep hb, fun e he => ⟨(h.E e he).1.keep hb, (h.E e he).2.keep hb⟩, h.below.trans (hb.mono h.below.size)⟩
theorem Env.box (h : Env w0 c l w) (hb : Below w.heap.size w w') (hl : aP w' s x) : Env w0 c ((w'.heap.size, s, x) :: l) ((w'.alloc (.cells (wc wz) 46)).setRow w'.heap.size (wc s)) := by
 have b := bH w' s
 have h2 := (h.keep hb).keep b
 refine ⟨h2.C, fun e he => ?_, h2.below⟩
 rcases List.mem_cons.1 he with rfl | he
 ·exact ⟨dx w' s, hl.keep b⟩
 ·exact h2.E e he
end
structure NoB (g : Nat) (s : Wk) (x : St) : Prop where
 rk : x.rk = [] ∨ ∀ a, s.rk.ad = some a → a.block ≠ g
 l0 : x.l0 = [] ∨ ∀ a, s.l0.ad = some a → a.block ≠ g
 l1 : x.l1 = [] ∨ ∀ a, s.l1.ad = some a → a.block ≠ g
 l2 : x.l2 = [] ∨ ∀ a, s.l2.ad = some a → a.block ≠ g
 hl : x.hl = [] ∨ ∀ a, s.hl.ad = some a → a.block ≠ g
 rd : x.rd = [] ∨ ∀ a, s.rd.ad = some a → a.block ≠ g
theorem iC {w : World} {k : IntKind} {y : Sl} {l : List Int} {g : Nat} (h : Reads w k y.v l) (hn : l = [] ∨ ∀ a, y.ad = some a → a.block ≠ g) (cs : Array Value) : Reads (w.setRow g cs) k y.v l := by
 obtain ⟨ad, cap, he, h1, h2, h3⟩ := h
 refine ⟨ad, cap, he, h1, h2, ?_⟩
 rcases h3 with h3 | ⟨b, off, rfl, hlt, h3⟩
 ·exact .inl h3
 ·rcases hn with hn | hn
  ·exact .inl hn
  ·simp only [Sl.v, Value.slice.injEq] at he
   exact .inr ⟨b, off, rfl, by simpa using hlt, fun i hi => (World.cell?_of_block (setRow_other w g b cs (hn _ he.1))).trans (h3 i hi)⟩
theorem aP.row {w : World} {s : Wk} {x : St} {g : Nat} (h : aP w s x) (hn : NoB g s x) (cs : Array Value) : aP (w.setRow g cs) s x :=
 ⟨h.p, iC h.rk hn.rk cs, iC h.l0 hn.l0 cs, iC h.l1 hn.l1 cs, iC h.l2 hn.l2 cs, iC h.hl hn.hl cs, iC h.rd hn.rd cs⟩
end Go.Proofs.YtaiodbcnbcdokaaGreat.Wo
end
