/- rack.plainOf (made by gensame2.py). -/
import Derived.Test.YtkplkhcboobfaaaRackPut
import Derived.Laws.StructEq
namespace Go.Proofs.Ytkplkhcboobfaaa.Wo
open Go Go.RowKit Go.Proofs.Ytkplkhcboobfaaa.Gro Go.Proofs.Ytkplkhcboobfaaa.Own Go.Proofs.Ytkplkhcboobfaaa.Wd Go.Proofs.Ytkplkhcboobfaaa.Ap Go.Proofs.Ytkplkhcboobfaaa.Pl
set_option linter.unusedVariables false
set_option linter.unusedSimpArgs false
/-- The value of rack.plain for a state's plain part. -/
abbrev pcA (p : Pl) : Array Value := #[.int .i64 p.o0, .int .u64 p.o1, .int .u64 p.o2, .int .i64 p.o3, .bool p.o4, .int .i64 p.o5, .int .i64 p.o6, .bool p.pn, .bool p.gv, .int .i64 p.ln, .int .i64 p.b, .int .i64 p.k, .int .i64 p.i, .int .i64 p.c, .int .i64 p.br, .int .i64 p.j, .int .u64 p.ep, .int .u64 p.h, .int .u64 p.n, .int .u64 p.v, .int .u64 p.u, .int .u64 p.g, .int .u64 p.t, .int .i64 p.rt]
def pv (p : Pl) : Value := .agg (pcA p)
theorem build_plain (p : Pl) (w : World) : (Instr.build 102 #[(0, .agg #[.int .i64 p.o0, .int .u64 p.o1, .int .u64 p.o2, .int .i64 p.o3, .bool p.o4, .int .i64 p.o5, .int .i64 p.o6]), (1, .bool p.pn), (2, .bool p.gv), (3, .int .i64 p.ln), (4, .int .i64 p.b), (5, .int .i64 p.k), (6, .int .i64 p.i), (7, .int .i64 p.c), (8, .int .i64 p.br), (9, .int .i64 p.j), (10, .int .u64 p.ep), (11, .int .u64 p.h), (12, .int .u64 p.n), (13, .int .u64 p.v), (14, .int .u64 p.u), (15, .int .u64 p.g), (16, .int .u64 p.t), (17, .int .i64 p.rt)]).run Try.prog w = .ok (pv p) w := run_build w _ _ _ (by kernel_rfl)
set_option maxRecDepth 100000 in
set_option maxHeartbeats 1000000 in
theorem plainOf (s : Wk) (w : World) : Calls Try.prog 62 #[wv s] w fun e w' => e = .returned (pv s.p) ∧ Below w.heap.size w w' := by
  have e0 : ∀ s : Wk, (wc s)[0]? = some (.int .i64 s.p.ln) := fun _ => rfl
  have e1 : ∀ s : Wk, (wc s)[1]? = some (.int .i64 s.p.o0) := fun _ => rfl
  have e2 : ∀ s : Wk, (wc s)[2]? = some (.int .u64 s.p.o1) := fun _ => rfl
  have e3 : ∀ s : Wk, (wc s)[3]? = some (.int .u64 s.p.o2) := fun _ => rfl
  have e4 : ∀ s : Wk, (wc s)[4]? = some (.int .i64 s.p.o3) := fun _ => rfl
  have e5 : ∀ s : Wk, (wc s)[5]? = some (.bool s.p.o4) := fun _ => rfl
  have e6 : ∀ s : Wk, (wc s)[6]? = some (.int .i64 s.p.o5) := fun _ => rfl
  have e7 : ∀ s : Wk, (wc s)[7]? = some (.int .i64 s.p.o6) := fun _ => rfl
  have e8 : ∀ s : Wk, (wc s)[8]? = some (.bool s.p.pn) := fun _ => rfl
  have e9 : ∀ s : Wk, (wc s)[9]? = some (.int .u64 s.p.ep) := fun _ => rfl
  have e10 : ∀ s : Wk, (wc s)[10]? = some (.slice s.rk.ad s.rk.len s.rk.cap) := fun _ => rfl
  have e11 : ∀ s : Wk, (wc s)[11]? = some (.int .u64 s.p.t0) := fun _ => rfl
  have e12 : ∀ s : Wk, (wc s)[12]? = some (.slice s.l0.ad s.l0.len s.l0.cap) := fun _ => rfl
  have e13 : ∀ s : Wk, (wc s)[13]? = some (.int .u64 s.p.t1) := fun _ => rfl
  have e14 : ∀ s : Wk, (wc s)[14]? = some (.slice s.l1.ad s.l1.len s.l1.cap) := fun _ => rfl
  have e15 : ∀ s : Wk, (wc s)[15]? = some (.int .u64 s.p.t2) := fun _ => rfl
  have e16 : ∀ s : Wk, (wc s)[16]? = some (.slice s.l2.ad s.l2.len s.l2.cap) := fun _ => rfl
  have e17 : ∀ s : Wk, (wc s)[17]? = some (.slice s.hl.ad s.hl.len s.hl.cap) := fun _ => rfl
  have e18 : ∀ s : Wk, (wc s)[18]? = some (.int .i64 s.p.b) := fun _ => rfl
  have e19 : ∀ s : Wk, (wc s)[19]? = some (.int .i64 s.p.k) := fun _ => rfl
  have e20 : ∀ s : Wk, (wc s)[20]? = some (.int .i64 s.p.i) := fun _ => rfl
  have e21 : ∀ s : Wk, (wc s)[21]? = some (.int .i64 s.p.c) := fun _ => rfl
  have e22 : ∀ s : Wk, (wc s)[22]? = some (.int .i64 s.p.br) := fun _ => rfl
  have e23 : ∀ s : Wk, (wc s)[23]? = some (.int .u64 s.p.h) := fun _ => rfl
  have e24 : ∀ s : Wk, (wc s)[24]? = some (.int .u64 s.p.n) := fun _ => rfl
  have e25 : ∀ s : Wk, (wc s)[25]? = some (.int .u64 s.p.v) := fun _ => rfl
  have e26 : ∀ s : Wk, (wc s)[26]? = some (.int .u64 s.p.u) := fun _ => rfl
  have e27 : ∀ s : Wk, (wc s)[27]? = some (.int .u64 s.p.g) := fun _ => rfl
  have e28 : ∀ s : Wk, (wc s)[28]? = some (.int .i64 s.p.j) := fun _ => rfl
  have e29 : ∀ s : Wk, (wc s)[29]? = some (.slice s.rd.ad s.rd.len s.rd.cap) := fun _ => rfl
  have e30 : ∀ s : Wk, (wc s)[30]? = some (.int .u64 s.p.t) := fun _ => rfl
  have e31 : ∀ s : Wk, (wc s)[31]? = some (.int .i64 s.p.rt) := fun _ => rfl
  have e32 : ∀ s : Wk, (wc s)[32]? = some (.bool s.p.gv) := fun _ => rfl
  have hbs := build_plain s.p
  unfold pv at hbs
  go_enter Try.func62, Try.ntmps62
  go_wp2_with (refine wpList_store_row rfl 102 _ _ rfl (w.heap.size + 1) (pcA s.p) rfl rfl _ _ (heap_alloc2_new _ _ _) (by kernel_rfl) (by kernel_rfl) (by kernel_rfl) ?_)
  refine bodyPost_ret (v := pv s.p) ?_ rfl ⟨rfl, below_setRow (((Below.refl _ _).alloc (Nat.le_refl _) _).alloc (by simp) _) (by simp) _⟩
  exact results_cell_row (p := 2) (ty := 102) Try.results62 _ _ (w.heap.size + 1) 102 (pcA s.p) (0, 0) _ rfl (setRow_heap _ _ _ _ _ _ (heap_alloc2_new _ _ _)) Try.underlying102 rfl (by kernel_rfl)
/-- The plain fields but the tags. -/
def plainEqb (p q : Pl) : Bool := p.o0 == q.o0 && (p.o1 == q.o1 && (p.o2 == q.o2 && (p.o3 == q.o3 && (p.o4 == q.o4 && (p.o5 == q.o5 && (p.o6 == q.o6 && (p.pn == q.pn && (p.gv == q.gv && (p.ln == q.ln && (p.b == q.b && (p.k == q.k && (p.i == q.i && (p.c == q.c && (p.br == q.br && (p.j == q.j && (p.ep == q.ep && (p.h == q.h && (p.n == q.n && (p.v == q.v && (p.u == q.u && (p.g == q.g && (p.t == q.t && (p.rt == q.rt)))))))))))))))))))))))
theorem ite_step {α : Type} [DecidableEq α] {a b : α} {A : Result Value} {r : Bool} {w : World} (h : A = .ok (.bool r) w) : (if a = b then A else .ok (.bool false) w) = .ok (.bool (a == b && r)) w := by
  by_cases e : a = b <;> simp [e, h]
theorem ite_last {α : Type} [DecidableEq α] {a b : α} {w : World} : (if a = b then (Result.ok (.bool true) w : Result Value) else .ok (.bool false) w) = .ok (.bool (a == b)) w := by
  by_cases e : a = b <;> simp [e]
theorem guard_plain (p q : Pl) (x y : Operand) (w : World) : (eqGuard .eql 102 x y (pv p) (pv q)).run Try.prog w = .ok () w := by
  unfold pv
  exact run_eqGuard_agg w .eql _ x y _ _ (by kernel_rfl)
set_option maxRecDepth 100000 in
theorem eql_plain (p q : Pl) (w : World) : (binOp .eql 102 (pv p) (pv q)).run Try.prog w = .ok (.bool (plainEqb p q)) w := by
  unfold pv pcA plainEqb
  rw [run_eql_struct]
  go_simp
  repeat refine ite_step ?_
  exact ite_last
theorem plainEqb_iff (p q : Pl) : plainEqb p q = true ↔ q = { p with t0 := q.t0, t1 := q.t1, t2 := q.t2 } := by
  obtain ⟨_, _, _, _, _, _, _, _, _, _, _, _, _, _, _, _, _, _, _, _, _, _, _, _, _, _, _⟩ := p
  obtain ⟨_, _, _, _, _, _, _, _, _, _, _, _, _, _, _, _, _, _, _, _, _, _, _, _, _, _, _⟩ := q
  simp only [plainEqb, Bool.and_eq_true, beq_iff_eq, Pl.mk.injEq]
  constructor
  · rintro ⟨rfl, rfl, rfl, rfl, rfl, rfl, rfl, rfl, rfl, rfl, rfl, rfl, rfl, rfl, rfl, rfl, rfl, rfl, rfl, rfl, rfl, rfl, rfl, rfl⟩
    simp
  · rintro ⟨rfl, rfl, rfl, rfl, rfl, rfl, rfl, rfl, rfl, rfl, _, _, _, rfl, rfl, rfl, rfl, rfl, rfl, rfl, rfl, rfl, rfl, rfl, rfl, rfl, rfl⟩
    simp
end Go.Proofs.Ytkplkhcboobfaaa.Wo
