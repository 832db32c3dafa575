/- Part HaEv. -/
import Derived.Test.YtaiodbcnbcdokaaGreatKHaFn
set_option linter.unusedVariables false
set_option linter.unusedSimpArgs false
set_option linter.unusedSectionVars false
set_option maxRecDepth 100000
set_option maxHeartbeats 16000000
section
namespace Go.Proofs.YtaiodbcnbcdokaaGreat.Ha
open Go Go.RowKit Go.ChangeMaps Gro Own Wd Ap Go.Proofs.YtaiodbcnbcdokaaGreat.Pl Wo Me Shp Opn
theorem blk_iff {y : Sl} {b : Nat} : blk y b ↔ y.v.ownBlock = some b := by
 obtain ⟨ad, l, c⟩ := y
 unfold blk
 cases ad with
 | none => simp [Sl.v, Value.ownBlock]
 | some d => simp [Sl.v, Value.ownBlock]
section
variable {P Q S : Nat → Prop} {w w' : World} {g : HG} {c : Cfg} {R : HR} {H : HD}
theorem HM.gl (m : HM w g c R H) : ∃ cur, w.heap[g.l]? = some (.cells cur UTy (0, 0)) := blk_own (y := ⟨some ⟨g.l, 0, none⟩, H.L.length, g.cap⟩) m.mem.W ⟨_, rfl, rfl⟩
theorem row_ne {b : Nat} {cur : Array Value} {e t : TypeId} {b' : Nat} {cs : Array Value} (h : w.heap[b]? = some (.cells cur e (0, 0))) (h' : Bk w b' cs t) (ht : t ≠ e) : b ≠ b' := fun he => by
 subst he
 unfold Bk at h'
 rw [h] at h'
 injection h' with h'
 injection h' with _ h2
 exact ht h2.symm
theorem HM.ne_h (m : HM w g c R H) : g.m ≠ g.h ∧ g.l ≠ g.h ∧ g.w ≠ g.h ∧ (∀ b, blk R.ev b → b ≠ g.h) ∧ (∀ i (h : i < R.rs.length) (h' : i < H.ws.length) b, blk R.rs[i].td b → b ≠ g.h) :=
 ⟨bk_neT m.mem.B m.box aL, by obtain ⟨cur, hc⟩ := m.gl; exact row_ne hc m.box aL, bk_neT m.row m.box aL, fun b hb => blk_neT m.ev hb m.box aL, fun i q q' b hb => blk_neT (m.td i q q') hb m.box aL⟩
theorem HM.ne_w (m : HM w g c R H) : g.m ≠ g.w ∧ g.l ≠ g.w ∧ g.h ≠ g.w ∧ (∀ b, blk R.ev b → b ≠ g.w) ∧ (∀ i (h : i < R.rs.length) (h' : i < H.ws.length) b, blk R.rs[i].td b → b ≠ g.w) :=
 ⟨bk_neT m.mem.B m.row aL, by obtain ⟨cur, hc⟩ := m.gl; exact row_ne hc m.row aL, bk_neT m.box m.row aL, fun b hb => blk_neT m.ev hb m.row aL, fun i q q' b hb => blk_neT (m.td i q q') hb m.row aL⟩
theorem HM.ne_ev (m : HM w g c R H) {b : Nat} (hb : blk R.ev b) : g.m ≠ b ∧ g.l ≠ b ∧ g.h ≠ b ∧ g.w ≠ b ∧ (∀ i (h : i < R.rs.length) (h' : i < H.ws.length) b', blk R.rs[i].td b' → b' ≠ b) := by
 obtain ⟨cur, hc⟩ := blk_own m.ev hb
 refine ⟨fun e => row_ne hc m.mem.B aL e.symm, fun e => ?_, fun e => row_ne hc m.box aL e.symm, fun e => row_ne hc m.row aL e.symm, fun i q q' b' hb' e => ?_⟩
 ·obtain ⟨cur2, h2⟩ := m.gl
  rw [e, hc] at h2
  injection h2 with h2
  injection h2 with _ h3
  exact absurd h3 aL
 ·obtain ⟨cur2, h2⟩ := blk_own (m.td i q q') hb'
  rw [e, hc] at h2
  injection h2 with h2
  injection h2 with _ h3
  exact absurd h3 aL
theorem HM.ne_td (m : HM w g c R H) {i : Nat} (q : i < R.rs.length) (q' : i < H.ws.length) {b : Nat} (hb : blk R.rs[i].td b) : g.m ≠ b ∧ g.l ≠ b ∧ g.h ≠ b ∧ g.w ≠ b ∧ (∀ b', blk R.ev b' → b' ≠ b) := by
 obtain ⟨cur, hc⟩ := blk_own (m.td i q q') hb
 refine ⟨fun e => row_ne hc m.mem.B aL e.symm, fun e => m.tdl i q (e ▸ hb), fun e => row_ne hc m.box aL e.symm, fun e => row_ne hc m.row aL e.symm, fun b' hb' e => ?_⟩
 exact (m.ne_ev hb').2.2.2.2 i q q' b hb e.symm
theorem HA.tick (h : HA S w g c R H) (n : Nat) : HA S (w.setCell ⟨g.h, 3, none⟩ (.int .i64 n)) g c R { H with tk := n } := by
 obtain ⟨n1, n2, n3, n4, n5⟩ := h.mu.ne_h
 have a : Agr (fun b => b ≠ g.h) w (w.setCell ⟨g.h, 3, none⟩ (.int .i64 n)) := Agr.cell (fun q => q rfl)
 have l := h.ls.agr (w' := w.setCell ⟨g.h, 3, none⟩ (.int .i64 n)) (Agr.cell (fun q => q.2 (.inl rfl)))
 exact ⟨⟨l.len, l.wk, l.evl, l.evw⟩, ⟨h.mu.box.setCell 3 _, mem_agr h.mu.mem a n1 n2, eH h.mu.row a n3, dO h.mu.ev a (fun d hd => n4 _ ⟨d, hd, rfl⟩), fun i q q' => dO (h.mu.td i q q') a (fun d hd => n5 i q q' _ ⟨d, hd, rfl⟩), h.mu.tdl, h.mu.tdne⟩, h.sub, fun b q => by simpa using h.lt b q⟩
theorem get_set {α : Type} {l : List α} {i j : Nat} {v : α} (h : j < (l.set i v).length) : (l.set i v)[j] = if i = j then v else l[j]'(by simpa using h) := by rw [List.getElem_set]
theorem mutB_set (i : Nat) (r : WkR) (hi : i < R.rs.length) (hr : r.td = R.rs[i].td) (b : Nat) : dz g { R with rs := R.rs.set i r } b ↔ dz g R b := by
 unfold dz
 have : (∃ q ∈ R.rs.set i r, blk q.td b) ↔ (∃ q ∈ R.rs, blk q.td b) := by
  constructor
  ·rintro ⟨q, hq, hb⟩
   obtain ⟨j, hj, rfl⟩ := List.mem_iff_getElem.1 hq
   rw [get_set] at hb
   by_cases e : i = j
   ·subst e; rw [if_pos rfl, hr] at hb; exact ⟨_, List.getElem_mem hi, hb⟩
   ·rw [if_neg e] at hb; exact ⟨_, List.getElem_mem (by simpa using hj), hb⟩
  ·rintro ⟨q, hq, hb⟩
   obtain ⟨j, hj, rfl⟩ := List.mem_iff_getElem.1 hq
   by_cases e : i = j
   ·subst e; exact ⟨r, List.mem_set hj _, by rw [hr]; exact hb⟩
   ·exact ⟨R.rs[j], List.mem_iff_getElem.2 ⟨j, by simpa using hj, by rw [get_set, if_neg e]⟩, hb⟩
 simp only [this]
theorem HA.wrow (h : HA S w g c R H) {w' : World} {i : Nat} (hi : i < R.rs.length) (r : WkR) (d : WkD) (hr : r.td = R.rs[i].td) (hd : ∀ q : i < H.ws.length, d.told = H.ws[i].told) (a : Agr (fun b => b ≠ g.w) w w') (hrow : Bk w' g.w (wsC (R.rs.set i r)) WTy) (hw : WkA (fun b => S b ∧ ¬ dz g R b) w' r d) :
  HA S w' g c { R with rs := R.rs.set i r } { H with ws := H.ws.set i d } := by
 obtain ⟨n1, n2, n3, n4, n5⟩ := h.mu.ne_w
 have hl := h.ls.len
 have l := h.ls.agr (w' := w') (a.mono fun b _ q e => q.2 (.inr (.inr (.inr (.inl e)))))
 have mb := mutB_set (g := g) (R := R) i r hi hr
 refine ⟨⟨by simp [hl], fun j q q' => ?_, l.evl, fun j q q' => (l.evw j q q').mono fun b _ p => ⟨p.1, fun e => p.2 ((mb b).1 e)⟩⟩, ⟨?_, mem_agr h.mu.mem a n1 n2, hrow, dO h.mu.ev a (fun d hd => n4 _ ⟨d, hd, rfl⟩), fun j q q' => ?_, fun j q => ?_, fun j k q q' b hne hb => ?_⟩, fun b q => h.sub b ((mb b).1 q), fun b q => Nat.lt_of_lt_of_le (h.lt b q) a.1⟩
 ·have key : WkA (fun b => S b ∧ ¬ dz g R b) w' (R.rs.set i r)[j] (H.ws.set i d)[j] := by
   simp only [get_set]
   by_cases e : i = j
   ·rw [if_pos e, if_pos e]; exact hw
   ·rw [if_neg e, if_neg e]; exact l.wk j qa64 qa65
  exact key.mono fun b _ p => ⟨p.1, fun e => p.2 ((mb b).1 e)⟩
 ·have hb := eH h.mu.box a n3
  unfold hC at hb ⊢
  simpa using hb
 ·simp only [get_set]
  by_cases e : i = j
  ·subst e
   simp only [if_pos]
   rw [hr, hd qa65]
   exact dO (h.mu.td i hi qa65) a (fun d hd => n5 i hi qa65 _ ⟨d, hd, rfl⟩)
  ·simp only [if_neg e]
   exact dO (h.mu.td j qa64 qa65) a (fun d hd => n5 j qa64 qa65 _ ⟨d, hd, rfl⟩)
 ·simp only [get_set]
  by_cases e : i = j
  ·subst e; rw [if_pos rfl, hr]; exact h.mu.tdl i hi
  ·rw [if_neg e]; exact h.mu.tdl j qa64
 ·simp only [get_set] at hb ⊢
  have e1 : (if i = j then r else R.rs[j]'qa64).td = (R.rs[j]'qa64).td := by
   by_cases e : i = j
   ·subst e; rw [if_pos rfl, hr]
   ·rw [if_neg e]
  have e2 : (if i = k then r else R.rs[k]'qa65).td = (R.rs[k]'qa65).td := by
   by_cases e : i = k
   ·subst e; rw [if_pos rfl, hr]
   ·rw [if_neg e]
  rw [e1] at hb
  rw [e2]
  exact h.mu.tdne j k qa64 qa65 b hne hb
theorem HA.memory (h : HA S w g c R H) {a : Acc} {L : List Int} (M : aC 0 w' g.m c a g.l g.cap L) (t : Me.Touch g.m g.l w w') : HA S w' g c R { H with a := a, L := L } := by
 obtain ⟨n1, n2, n3, n4, n5⟩ := h.mu.ne_h
 obtain ⟨m1, m2, m3, m4, m5⟩ := h.mu.ne_w
 have ag : Agr (fun b => b ≠ g.m ∧ b ≠ g.l) w w' := Agr.touch t (fun b q => q)
 have l := h.ls.agr (w' := w') (ag.mono fun b _ q => ⟨fun e => q.2 (.inr (.inl e)), fun e => q.2 (.inr (.inr (.inl e)))⟩)
 exact ⟨⟨l.len, l.wk, l.evl, l.evw⟩, ⟨eH h.mu.box ag ⟨n1.symm, n2.symm⟩, M, eH h.mu.row ag ⟨m1.symm, m2.symm⟩, dO h.mu.ev ag (fun d hd => ⟨(h.mu.ne_ev ⟨d, hd, rfl⟩).1.symm, (h.mu.ne_ev ⟨d, hd, rfl⟩).2.1.symm⟩), fun i q q' => dO (h.mu.td i q q') ag (fun d hd => ⟨(h.mu.ne_td q q' ⟨d, hd, rfl⟩).1.symm, (h.mu.ne_td q q' ⟨d, hd, rfl⟩).2.1.symm⟩), h.mu.tdl, h.mu.tdne⟩, h.sub, fun b q => Nat.lt_of_lt_of_le (h.lt b q) t.size⟩
end
end Go.Proofs.YtaiodbcnbcdokaaGreat.Ha
end
section
namespace Go.Proofs.YtaiodbcnbcdokaaGreat.Ha
open Go Go.RowKit Go.ChangeMaps Gro Own Wd Ap Go.Proofs.YtaiodbcnbcdokaaGreat.Pl Wo Me Shp Opn
def findV (g : HG) (n : Nat) (k : Int) : Value := .pointer (if 0 ≤ k ∧ k < (n : Int) then some ⟨g.w, 36 * k.toNat, none⟩ else none)
theorem hFind {S : Nat → Prop} {w : World} {g : HG} {c : Cfg} {R : HR} {H : HD} (h : HA S w g c R H) (k : Int) (hn : R.rs.length ≤ 8) :
  Calls Tryz.prog 60 #[.pointer (some ⟨g.h, 0, none⟩), .int .i64 k] w fun e w' => e = .returned (findV g R.rs.length k) ∧ w' = w := by
 have x1 : w.cell? ⟨g.h, 1, none⟩ = some (.slice (some ⟨g.w, 0, none⟩) R.rs.length R.rs.length) := qa76
 have lh := h.mu.box.lt
 unfold findV
 by_cases h0 : k < 0
 ·exact qa1f
 by_cases h1 : (R.rs.length : Int) ≤ k
 ·exact qa1f
 ·obtain ⟨i, rfl⟩ : ∃ i : Nat, k = i := ⟨k.toNat, by omega⟩
  have hi : i < R.rs.length := aj
  have hne : 0 ≤ (i : Int) ∧ (i : Int) < (R.rs.length : Int) := aj
  rw [if_pos hne, Int.toNat_natCast]
  clear hne h0
  go_enter Tryz.func60, Tryz.ntmps60
  go_wp2
  go_ret
  exact ⟨by rw [show 36 * i = i * 36 from Nat.mul_comm _ _]; rfl, rfl⟩
end Go.Proofs.YtaiodbcnbcdokaaGreat.Ha
end
section
namespace Go.Proofs.YtaiodbcnbcdokaaGreat.Ha
open Go Go.RowKit Go.ChangeMaps Gro Own Wd Ap Go.Proofs.YtaiodbcnbcdokaaGreat.Pl Wo Me Shp Opn
def wkA (r : WkR) : Array Value := (wkC r).toArray
def evZ : Ev := ⟨0, 0, 0, 0, 0, 0, 0, 0, false, 0, 0, 0, 0, aG, 0, 0, 0, 0, 0, 0⟩
def wkZ : WkR := ⟨aG, 0, wz, aG⟩
abbrev ATy : TypeId := 66
theorem run_alloc_wk (w : World) : (Instr.alloc WTy true (.tuple #[])).run Tryz.prog w = .ok (.pointer (some ⟨w.heap.size, 0, none⟩)) (w.alloc (.cells (wkA wkZ) WTy)) := ah
theorem run_alloc_ev (w : World) : (Instr.alloc ETy true (.tuple #[])).run Tryz.prog w = .ok (.pointer (some ⟨w.heap.size, 0, none⟩)) (w.alloc (.cells (ec evZ) ETy)) := ah
section
variable {ops : Array Oper} {rest : List Oper} {o : Oper} {a : Act} {w : World} {Q : Exit → Act → World → Prop}
theorem wpList_alloc_wk (hg : o.guard = none) (ho : o.op = .alloc WTy) (h : wpList Tryz.prog ops Q rest (a.put o.dst (.pointer (some ⟨w.heap.size, 0, none⟩))) (w.alloc (.cells (wkA wkZ) WTy))) : wpList Tryz.prog ops Q (o :: rest) a w := by
 refine wpList_plain hg fun K hK => ?_
 unfold Oper.wp
 simp [execOp, ho, run_alloc_wk, Result.andThen]
 exact hK _ _ h
theorem dJ (hg : o.guard = none) (ho : o.op = .alloc ETy) (h : wpList Tryz.prog ops Q rest (a.put o.dst (.pointer (some ⟨w.heap.size, 0, none⟩))) (w.alloc (.cells (ec evZ) ETy))) : wpList Tryz.prog ops Q (o :: rest) a w := by
 refine wpList_plain hg fun K hK => ?_
 unfold Oper.wp
 simp [execOp, ho, run_alloc_ev, Result.andThen]
 exact hK _ _ h
end
def opA (p : Pl) : Array Value := #[.int .i64 p.o0, .int .u64 p.o1, .int .u64 p.o2, .int .i64 p.o3, .bool p.o4, .int .i64 p.o5, .int .i64 p.o6]
def ansA (p : Pl) : Array Value := #[.int .i64 p.o0, .int .u64 p.o1, .int .u64 p.o2, .int .i64 p.o3, .bool p.o4, .int .i64 p.o5, .int .i64 p.o6, .int .u64 p.t, .int .i64 p.rt, .slice none 0 0]
theorem build_ans (p : Pl) (w : World) : (Instr.build ATy #[(0, .agg (opA p)), (1, .int .u64 p.t), (2, .int .i64 p.rt)]).run Tryz.prog w = .ok (.agg (ansA p)) w := run_build w _ _ _ ah
theorem build_ev (p : Pl) (tk k n kd : Int) (w : World) : (Instr.build ETy #[(0, .int .i64 tk), (1, .int .i64 k), (2, .int .i64 n), (3, .int .i64 kd), (4, .agg (ansA p))]).run Tryz.prog w = .ok (.agg (ec ⟨tk, k, n, kd, p.o0, p.o1, p.o2, p.o3, p.o4, p.o5, p.o6, p.t, p.rt, aG, 0, 0, 0, 0, 0, 0⟩)) w := run_build w _ _ _ ah
section
variable {P : Program} {ops : Array Oper} {S : World → Prop} {o : Oper} {a : Act}
theorem yieldsIf_build3 (hw : Region.wanted o (yielded ops a.tmps) = true) (ty : TypeId) (x y z : Operand) (ho : o.op = .build ty #[(0, x), (1, y), (2, z)]) (vx vy vz v : Value) (hr : ∀ w, (Instr.build ty #[(0, vx), (1, vy), (2, vz)]).run P w = .ok v w) (hx : a.eval x = vx) (hy : a.eval y = vy) (hz : a.eval z = vz) : YieldsIf P ops S o v a :=
 .inl ⟨hw, fun w _ => by
  subst hx hy hz
  unfold execOp
  simp only [ho, Sem.run_bind, Sem.run_pure, Result.andThen_ok, List.map_toArray, List.map_cons, List.map_nil, hr]⟩
theorem yieldsIf_build5 (hw : Region.wanted o (yielded ops a.tmps) = true) (ty : TypeId) (x0 x1 x2 x3 x4 : Operand) (ho : o.op = .build ty #[(0, x0), (1, x1), (2, x2), (3, x3), (4, x4)]) (v0 v1 v2 v3 v4 v : Value) (hr : ∀ w, (Instr.build ty #[(0, v0), (1, v1), (2, v2), (3, v3), (4, v4)]).run P w = .ok v w) (h0 : a.eval x0 = v0) (h1 : a.eval x1 = v1) (h2 : a.eval x2 = v2) (h3 : a.eval x3 = v3) (h4 : a.eval x4 = v4) : YieldsIf P ops S o v a :=
 .inl ⟨hw, fun w _ => by
  subst h0 h1 h2 h3 h4
  unfold execOp
  simp only [ho, Sem.run_bind, Sem.run_pure, Result.andThen_ok, List.map_toArray, List.map_cons, List.map_nil, hr]⟩
end
theorem wk_range {w : World} {b : Nat} {rs : List WkR} (h : Bk w b (wsC rs) WTy) {i : Nat} (hi : i < rs.length) : w.rangeAt b (36 * i) (wkC rs[i]) := fun j v hv => by
 have hj : j < 36 := (List.getElem?_eq_some_iff.1 hv).1
 rw [h.cells, jw rs i j hi hj]
 exact hv
theorem op_range {w : World} {b : Nat} {r : WkR} (h : Bk w b (wkA r) WTy) : w.rangeAt b 3 (opA r.s.p).toList := fun j v hv => by
 rw [h.cells]
 rcases j with _ | _ | _ | _ | _ | _ | _ | j <;> first | exact hv | (simp [opA] at hv)
theorem hEvent {S : Nat → Prop} {w : World} {g : HG} {c : Cfg} {R : HR} {H : HD} (h : HA S w g c R H) (i : Nat) (hi : i < R.rs.length) (kd : Int) :
  Calls Tryz.prog 98 #[.pointer (some ⟨g.h, 0, none⟩), .int .i64 (i : Int), .int .i64 kd] w fun e w' => e = .returned (.agg (ec (evE H.tk i R.rs[i].bg R.rs[i].s.p kd))) ∧ Below w.heap.size w w' := by
 have EZ := Bk.new w (ec evZ) ETy
 have WZ := Bk.new (w.alloc (.cells (ec evZ) ETy)) (wkA wkZ) WTy
 rw [World.size_alloc] at WZ
 have EZ1 := EZ.alloc (.cells (wkA wkZ) WTy)
 have b1 : Below w.heap.size w (w.alloc (.cells (ec evZ) ETy)) := (Below.refl _ _).alloc (Nat.le_refl _) _
 have b2 : Below w.heap.size w ((w.alloc (.cells (ec evZ) ETy)).alloc (.cells (wkA wkZ) WTy)) := b1.alloc aF _
 have h1 := h.keep b1
 have h2 := h.keep b2
 have lh0 := h.mu.box.lt
 have lw0 := h.mu.row.lt
 obtain ⟨r, hr⟩ : ∃ r, r = R.rs[i] := ⟨_, rfl⟩
 have RG := wk_range h1.mu.row hi
 rw [← hr] at RG ⊢
 clear hr
 obtain ⟨w1, hw1⟩ : ∃ u, u = w.alloc (.cells (ec evZ) ETy) := ⟨_, rfl⟩
 rw [← hw1] at RG EZ EZ1 WZ b2 h1 h2
 obtain ⟨w2, hw2⟩ : ∃ u, u = w1.alloc (.cells (wkA wkZ) WTy) := ⟨_, rfl⟩
 rw [← hw2] at EZ1 WZ b2 h2
 have x1 : w1.cell? ⟨g.h, 1, none⟩ = some (.slice (some ⟨g.w, 0, none⟩) R.rs.length R.rs.length) := by rw [h1.mu.box.cells]; rfl
 have lh1 := h1.mu.box.lt
 have W3 := WZ.setRow (wkA r)
 have E3 := EZ1.aJ (by omega : w.heap.size ≠ w.heap.size + 1) (wkA r)
 have B3 : Bk (w2.setRow (w.heap.size + 1) (wkA r)) g.h (hC g R H.tk) HTy := h2.mu.box.aJ aj (wkA r)
 have b3 : Below w.heap.size w (w2.setRow (w.heap.size + 1) (wkA r)) := below_setRow b2 aj _
 obtain ⟨n1, hn1⟩ : ∃ n, n = wrap64 (r.bg - 1) := ⟨_, rfl⟩
 have hn1' : IntKind.i64.wrap (r.bg - 1) = n1 := (IntWalk.i64_left _).trans hn1.symm
 have HEV : RowKit.Hid (evE H.tk i r.bg r.s.p kd = ⟨H.tk, i, n1, kd, r.s.p.o0, r.s.p.o1, r.s.p.o2, r.s.p.o3, r.s.p.o4, r.s.p.o5, r.s.p.o6, r.s.p.t, r.s.p.rt, aG, 0, 0, 0, 0, 0, 0⟩) := Lib.hid (by unfold evE; rw [← hn1])
 rw [HEV.out]
 obtain ⟨tk, htk⟩ : ∃ t : Int, t = H.tk := ⟨_, rfl⟩
 rw [← htk] at B3 ⊢
 have HWZ := Lib.hid WZ
 have HRG := Lib.hid RG
 have f1 : (wkA r)[1]? = some (.int .i64 r.bg) := rfl
 have f32 : (wkA r)[32]? = some (.int .u64 r.s.p.t) := rfl
 have f33 : (wkA r)[33]? = some (.int .i64 r.s.p.rt) := rfl
 have f3 : (hC g R tk)[3]? = some (.int .i64 tk) := rfl
 have HBA := Lib.hid (build_ans r.s.p)
 have HBE := Lib.hid (build_ev r.s.p tk i n1 kd)
 clear hn1 htk RG EZ EZ1 WZ h1 h2 b1
 go_enter Tryz.func98, Tryz.ntmps98
 go_upto_region 1 with (refine dJ rfl rfl ?_)
 try simp only [Act.put, List.setIfInBounds_toArray, List.set_cons_succ, List.set_cons_zero]
 rw [← hw1]
 have hmi : i * 36 = 36 * i := Nat.mul_comm _ _
 obtain ⟨w3, hw3⟩ : ∃ u, u = w2.setRow (w.heap.size + 1) (wkA r) := ⟨_, rfl⟩
 rw [← hw3] at W3 E3 B3 b3
 have HW2 := Lib.hid hw2
 have HS1 : RowKit.Hid (w1.heap.size = w.heap.size + 1) := Lib.hid (by rw [hw1]; simp)
 have HW3 := Lib.hid hw3
 clear hw1 hw2 hw3
 go_upto_region 2 with (first | (refine wpList_load_mid rfl WTy _ rfl g.w (36 * i) (by rw [← hmi]; rfl) (wkC r) _ qa77 Tryz.underlying106 rfl ah ?_) | (refine wpList_alloc_wk rfl rfl ?_; rw [← HW2.out, HS1.out]) | (refine wpList_store_row rfl WTy _ _ rfl (w.heap.size + 1) (wkA r) rfl rfl _ _ (by exact HWZ.out) ah ah ah ?_; rw [← HW3.out]))
 clear x1 hmi
 have hz0 : Below w3.heap.size w3 w3.drew := Below.drew (Below.refl _ _)
 refine wp_region_held_drew (S := fun w' => Bk w' g.h (hC g R tk) HTy ∧ Bk w' (w.heap.size + 1) (wkA r) WTy) ah ⟨B3.keep hz0, W3.keep hz0⟩ (fun hHeld => ?_)
 have E4 := E3.keep hz0
 have b4 := b3.trans (hz0.mono b3.size)
 have B4 := B3.keep hz0
 have W4 := W3.keep hz0
 generalize w3.drew = z0 at *
 refine jT 0 (.pointer (some ⟨g.h, 0, none⟩)) rfl hHeld ?_
 try simp only [Act.put, jP]
 refine jT 1 (.pointer (some ⟨g.h, 0, none⟩)) rfl hHeld ?_
 try simp only [Act.put, jP]
 refine jT 2 (.pointer (some ⟨g.h, 3, none⟩)) rfl hHeld ?_
 try simp only [Act.put, jP]
 refine jY 3 (.int .i64 tk) rfl (Or.inl ⟨by rfl, fun w' hSw => by have xx := hSw.1.cells; go_simp⟩) hHeld ?_
 try simp only [Act.put, jP]
 refine jT 4 (.int .i64 (i : Int)) rfl hHeld ?_
 try simp only [Act.put, jP]
 refine jT 5 (.pointer (some ⟨w.heap.size + 1, 1, none⟩)) rfl hHeld ?_
 try simp only [Act.put, jP]
 refine jY 6 (.int .i64 r.bg) rfl (Or.inl ⟨by rfl, fun w' hSw => by have xx := hSw.2.cells; go_simp⟩) hHeld ?_
 try simp only [Act.put, jP]
 refine jT 7 (.int .i64 n1) rfl hHeld ?_
 try simp only [Act.put, jP]
 refine jT 8 (.int .i64 kd) rfl hHeld ?_
 try simp only [Act.put, jP]
 refine jT 9 (.pointer (some ⟨w.heap.size + 1, 2, none⟩)) rfl hHeld ?_
 try simp only [Act.put, jP]
 refine jT 10 (.pointer (some ⟨w.heap.size + 1, 3, none⟩)) rfl hHeld ?_
 try simp only [Act.put, jP]
 refine jY 11 (.agg (opA r.s.p)) rfl (yieldsIf_load_mid jy 30 _ rfl (w.heap.size + 1) 3 rfl (opA r.s.p).toList _ (fun w' hw' => op_range hw'.2) Tryz.underlying30 rfl ah) hHeld ?_
 try simp only [Act.put, jP]
 refine jT 12 (.pointer (some ⟨w.heap.size + 1, 2, none⟩)) rfl hHeld ?_
 try simp only [Act.put, jP]
 refine jT 13 (.pointer (some ⟨w.heap.size + 1, 32, none⟩)) rfl hHeld ?_
 try simp only [Act.put, jP]
 refine jY 14 (.int .u64 r.s.p.t) rfl (Or.inl ⟨by rfl, fun w' hSw => by have xx := hSw.2.cells; go_simp⟩) hHeld ?_
 try simp only [Act.put, jP]
 refine jT 15 (.pointer (some ⟨w.heap.size + 1, 2, none⟩)) rfl hHeld ?_
 try simp only [Act.put, jP]
 refine jT 16 (.pointer (some ⟨w.heap.size + 1, 33, none⟩)) rfl hHeld ?_
 try simp only [Act.put, jP]
 refine jY 17 (.int .i64 r.s.p.rt) rfl (Or.inl ⟨by rfl, fun w' hSw => by have xx := hSw.2.cells; go_simp⟩) hHeld ?_
 try simp only [Act.put, jP]
 refine jY 18 (.agg (ansA r.s.p)) rfl (yieldsIf_build3 jy ATy _ _ _ rfl (.agg (opA r.s.p)) (.int .u64 r.s.p.t) (.int .i64 r.s.p.rt) _ HBA.out rfl rfl rfl) hHeld ?_
 try simp only [Act.put, jP]
 refine jY 19 (.agg (ec ⟨tk, i, n1, kd, r.s.p.o0, r.s.p.o1, r.s.p.o2, r.s.p.o3, r.s.p.o4, r.s.p.o5, r.s.p.o6, r.s.p.t, r.s.p.rt, aG, 0, 0, 0, 0, 0, 0⟩)) rfl (yieldsIf_build5 jy ETy _ _ _ _ _ rfl (.int .i64 tk) (.int .i64 (i : Int)) (.int .i64 n1) (.int .i64 kd) (.agg (ansA r.s.p)) _ HBE.out rfl rfl rfl rfl rfl) hHeld ?_
 try simp only [Act.put, jP]
 refine jR [20] ?_
 refine jC rfl (fun K hK => ?_) jN
 refine dh rfl ETy _ _ rfl w.heap.size (ec ⟨tk, i, n1, kd, r.s.p.o0, r.s.p.o1, r.s.p.o2, r.s.p.o3, r.s.p.o4, r.s.p.o5, r.s.p.o6, r.s.p.t, r.s.p.rt, aG, 0, 0, 0, 0, 0, 0⟩) rfl rfl _ _ (by exact E4) ah ah ah ?_
 refine hK.out _ _ ⟨B4.aJ aj _, W4.aJ aj _⟩ (fun hHeld => ?_)
 clear hK K
 refine wpAnyH_done ah ?_ _
 have E5 := E4.setRow (ec ⟨tk, i, n1, kd, r.s.p.o0, r.s.p.o1, r.s.p.o2, r.s.p.o3, r.s.p.o4, r.s.p.o5, r.s.p.o6, r.s.p.t, r.s.p.rt, aG, 0, 0, 0, 0, 0, 0⟩)
 go_wp2_with fail
 refine bodyPost_ret (v := .agg (ec ⟨tk, i, n1, kd, r.s.p.o0, r.s.p.o1, r.s.p.o2, r.s.p.o3, r.s.p.o4, r.s.p.o5, r.s.p.o6, r.s.p.t, r.s.p.rt, aG, 0, 0, 0, 0, 0, 0⟩)) ?_ rfl ⟨rfl, below_setRow b4 (Nat.le_refl _) _⟩
 exact results_cell_row (p := 6) (ty := ETy) Tryz.results98 _ _ w.heap.size ETy _ (0, 0) _ rfl E5 Tryz.underlying70 rfl ah
end Go.Proofs.YtaiodbcnbcdokaaGreat.Ha
end
