/- Part HaAw15. -/
import Derived.Test.YtaiodbcnbcdokaaGreatKHaEvs
set_option linter.unusedVariables false
set_option linter.unusedSimpArgs false
set_option linter.unusedSectionVars false
set_option maxRecDepth 100000
set_option maxHeartbeats 16000000
section
namespace Go.Proofs.YtaiodbcnbcdokaaGreat.Ha
open Go Go.RowKit Go.ChangeMaps Gro Own Wd Ap Go.Proofs.YtaiodbcnbcdokaaGreat.Pl Wo Me Shp Opn
def uB (x : Int) : Bool := decide (0 ≤ x) && decide (x < 18446744073709551616)
def fewB (n : Nat) (x : St) : Bool := decide (x.rk.length ≤ n) && decide (x.l0.length ≤ n) && decide (x.l1.length ≤ n) && decide (x.l2.length ≤ n) && decide (x.hl.length ≤ n) && decide (x.rd.length ≤ n)
def prB (p : Pl) : Bool := uB p.ep && uB p.h && uB p.n && uB p.v && uB p.u && uB p.g && uB p.t
def lnsF : List Int := [1, 2, 3, 90, 70, 71, 72, 73, 36, 37, 10, 11, 12, 30, 31, 32, 33, 34, 35, 38, 20, 21, 22, 40, 41, 23, 24, 25, 42, 43, 44, 45, 46, 60, 50, 61, 62]
def lnsT : List Int := [13, 14, 15, 30, 31, 32, 39]
def lnB (p : Pl) : Bool := if p.gv = true then lnsT.contains p.ln else lnsF.contains p.ln
def wkB (c : Cfg) (H : HD) (i : Nat) (d : WkD) : Bool :=
 fewB 200 d.st && prB d.st.p && (decide (d.st.p.ln = 0) || (lnB d.st.p && decide ((ay c i H.a H.L d.st).x.rd.length ≤ 1000))) && decide (d.told.length ≤ 1000) && (d.prog.all fun o => uB (fH H.ws o)) && decide (d.prog.length ≤ 1000) && decide (d.bg ≤ 1000)
def wksB (c : Cfg) (H : HD) : Nat → List WkD → Bool
 | _, [] => true
 | i, d :: r => wkB c H i d && wksB c H (i + 1) r
def wfB (c : Cfg) (H : HD) : Bool := decide (H.L.length ≤ 1000) && H.L.all uB && decide (H.ws.length ≤ 8) && decide (H.ev.length ≤ 80000) && decide (H.tk ≤ 100000) && wksB c H 0 H.ws
theorem uB_of {x : Int} (h : uB x = true) : 0 ≤ x ∧ x < 18446744073709551616 := by simpa [uB] using h
theorem wksB_at {c : Cfg} {H : HD} : ∀ {l : List WkD} {n i : Nat} (h : wksB c H n l = true) (q : i < l.length), wkB c H (n + i) l[i] = true
 | d :: r, n, 0, h, _ => by simp [wksB] at h; exact h.1
 | d :: r, n, i + 1, h, q => by
  simp [wksB] at h
  have := wksB_at (i := i) h.2 qa64
  rw [show n + (i + 1) = n + 1 + i by omega]
  exact this
theorem lnF_of {k : Int} (h : lnsF.contains k = true) : lineF k := by
 simp [lnsF] at h
 unfold lineF
 omega
theorem lnT_of {k : Int} (h : lnsT.contains k = true) : lineT k := by
 simp [lnsT] at h
 unfold lineT
 omega
theorem wf_of {c : Cfg} {H : HD} (h : wfB c H = true) : WfH c H := by
 simp only [wfB, Bool.and_eq_true, decide_eq_true_eq] at h
 obtain ⟨⟨⟨⟨⟨h1, h2⟩, h3⟩, h4⟩, h5⟩, h6⟩ := h
 have W : ∀ i (q : i < H.ws.length), wkB c H i H.ws[i] = true := fun i q => by
  have := wksB_at (i := i) h6 q
  rw [Nat.zero_add] at this
  exact this
 have K : ∀ i (q : i < H.ws.length), (fewB 200 H.ws[i].st = true ∧ prB H.ws[i].st.p = true ∧ (H.ws[i].st.p.ln = 0 ∨ (lnB H.ws[i].st.p = true ∧ (ay c i H.a H.L H.ws[i].st).x.rd.length ≤ 1000))) ∧ H.ws[i].told.length ≤ 1000 ∧ (H.ws[i].prog.all fun o => uB (fH H.ws o)) = true ∧ H.ws[i].prog.length ≤ 1000 ∧ H.ws[i].bg ≤ 1000 := fun i q => by
  have w := W i q
  simp only [wkB, Bool.and_eq_true, Bool.or_eq_true, decide_eq_true_eq] at w
  obtain ⟨⟨⟨⟨⟨⟨w1, w2⟩, w3⟩, w4⟩, w5⟩, w6⟩, w7⟩ := w
  exact ⟨⟨w1, w2, w3⟩, w4, w5, w6, w7⟩
 refine ⟨h1, fun x hx => uB_of (List.all_eq_true.1 h2 x hx), h3, h4, h5, fun i q => ?_, fun i q => ?_, fun i q hl => ?_, fun i q hl => ?_, fun i q => (K i q).2.1, fun i q bg hb => uB_of (List.all_eq_true.1 (K i q).2.2.1 _ (List.getElem_mem hb)), fun i q => (K i q).2.2.2.1, fun i q => (K i q).2.2.2.2⟩
 ·have k := (K i q).1.1
  simp only [fewB, Bool.and_eq_true, decide_eq_true_eq] at k
  obtain ⟨⟨⟨⟨⟨k1, k2⟩, k3⟩, k4⟩, k5⟩, k6⟩ := k
  exact ⟨k1, k2, k3, k4, k5, k6⟩
 ·have k := (K i q).1.2.1
  simp only [prB, Bool.and_eq_true] at k
  obtain ⟨⟨⟨⟨⟨⟨k1, k2⟩, k3⟩, k4⟩, k5⟩, k6⟩, k7⟩ := k
  exact ⟨uB_of k1, uB_of k2, uB_of k3, uB_of k4, uB_of k5, uB_of k6, uB_of k7⟩
 ·rcases (K i q).1.2.2 with k | k
  ·exact absurd k hl
  ·have k := k.1
   unfold lnB at k
   cases hg : H.ws[i].st.p.gv
   ·rw [hg] at k
    exact .inl ⟨rfl, lnF_of (by simpa using k)⟩
   ·rw [hg] at k
    exact .inr ⟨rfl, lnT_of (by simpa using k)⟩
 ·rcases (K i q).1.2.2 with k | k
  ·exact absurd k hl
  ·exact k.2
end Go.Proofs.YtaiodbcnbcdokaaGreat.Ha
end
section
namespace Go.Proofs.YtaiodbcnbcdokaaGreat.Ha
open Go Go.RowKit Go.ChangeMaps Gro Own Wd Ap Go.Proofs.YtaiodbcnbcdokaaGreat.Pl Wo Me Shp Opn Opw Scw
def c15 : Cfg := ⟨1, 1, 1, 1, 1, 0, 1, 1⟩
def p15 : List (List OpD) := [[⟨3, 0, 7, 0, false, 0, 0⟩]]
def h15 (n : Nat) : HD := runF c15 (hdN c15 p15 1) (List.replicate n 0)
theorem h15_succ (n : Nat) : h15 (n + 1) = pickF c15 (h15 n) 0 := by
 unfold h15 runF
 rw [List.replicate_succ', List.foldl_append]
 rfl
theorem w15 : ∀ n : Fin 14, (wfB c15 (h15 n.1) && decide ((h15 n.1).tk < 100000)) = true := qa7u
theorem wf15 (n : Nat) (h : n < 14) : WfH c15 (h15 n) ∧ (h15 n).tk < 100000 := by
 have := w15 ⟨n, h⟩
 simp only [Bool.and_eq_true, decide_eq_true_eq] at this
 exact ⟨wf_of this.1, this.2⟩
theorem e15 : ((h15 14).ev.length = 16 ∧ ((h15 14).ev.getD 0 ⟨evZ, []⟩).e.kd = 1 ∧ ((h15 14).ev.getD 15 ⟨evZ, []⟩).e.kd = 4 ∧ ((h15 14).ev.getD 15 ⟨evZ, []⟩).e.t = 65537) ∧ (∀ p ∈ (h15 14).ev, p.ws.length ≤ 1000) := qa7u
abbrev o15 : OpD := ⟨3, 0, 7, 0, false, 0, 0⟩
theorem bcfg15 (w : World) : (Instr.build 24 #[(0, .int .i64 1), (1, .int .i64 1), (2, .int .i64 1), (3, .int .i64 1), (4, .int .i64 1), (6, .int .i64 1), (7, .int .u64 1)]).run Tryz.prog w = .ok (cv c15) w := run_build w _ _ _ ah
theorem bop15 (w : World) : (Instr.build OTy #[(0, .int .i64 3), (2, .int .u64 7)]).run Tryz.prog w = .ok (.agg (opC o15)) w := run_build w _ _ _ ah
theorem bso15 (w : World) : (Instr.buildSlice 25 1 #[(0, .agg (opC o15))]).run Tryz.prog w = .ok (.slice (some ⟨w.heap.size, 0, none⟩) 1 1) (w.alloc (.cells (opC o15) OTy)) := ah
theorem bsp15 (a : Nat) (w : World) : (Instr.buildSlice 63 1 #[(0, .slice (some ⟨a, 0, none⟩) 1 1)]).run Tryz.prog w = .ok (.slice (some ⟨w.heap.size, 0, none⟩) 1 1) (w.alloc (.cells #[.slice (some ⟨a, 0, none⟩) 1 1] 25)) := ah
theorem alloc_cfg (w : World) : (Instr.alloc 24 true (.tuple #[])).run Tryz.prog w = .ok (.pointer (some ⟨w.heap.size, 0, none⟩)) (w.alloc (.cells (dZ ⟨0, 0, 0, 0, 0, 0, 0, 0⟩) 24)) := ah
theorem wpList_alloc_cfg {ops : Array Oper} {rest : List Oper} {o : Oper} {a : Act} {w : World} {Q : Exit → Act → World → Prop} (hgd : o.guard = none) (ho : o.op = .alloc 24)
  (h : wpList Tryz.prog ops Q rest (a.put o.dst (.pointer (some ⟨w.heap.size, 0, none⟩))) (w.alloc (.cells (dZ ⟨0, 0, 0, 0, 0, 0, 0, 0⟩) 24))) : wpList Tryz.prog ops Q (o :: rest) a w := by
 refine wpList_plain hgd fun K hK => ?_
 unfold Oper.wp
 simp [execOp, ho, alloc_cfg, Result.andThen]
 exact hK _ _ h
theorem cell_ev {B : Nat} {w : World} {y : Sl} {es : List Ev} {ps : List PE} (h : EvR B w y es ps) (i j : Nat) (hi : i < es.length) (hj : j < 20) : ∃ gy cap, y = ⟨some ⟨gy, 0, none⟩, es.length, cap⟩ ∧ gy < w.heap.size ∧ w.cell? ⟨gy, 20 * i + j, none⟩ = (ec es[i]).toList[j]? := by
 obtain ⟨g, cap, e1, h1, h2, h3, h4, hc⟩ := eG h.own aj
 obtain ⟨a, l, c⟩ := y
 simp only [Sl.v, Value.slice.injEq] at e1
 obtain ⟨rfl, rfl, rfl⟩ := e1
 exact ⟨g, _, rfl, h2, (hc (20 * i + j) (by rw [evC_len]; omega)).trans (evC_at es i j hi hj)⟩
theorem awake15 (w : World) : Calls Tryz.prog 22 #[] w fun e w' => e = .returned (.bool true) ∧ Below w.heap.size w w' := by
 have b1 := fun w => bcfg15 w
 have b2 := fun w => bop15 w
 have b3 := fun w => bso15 w
 have b4 := fun a w => bsp15 a w
 obtain ⟨gc, hgc⟩ : ∃ q, q = w.heap.size := ⟨_, rfl⟩
 obtain ⟨w1, hw1⟩ : ∃ q, q = w.alloc (.cells (dZ ⟨0, 0, 0, 0, 0, 0, 0, 0⟩) 24) := ⟨_, rfl⟩
 have X1 : Bk w1 gc (dZ ⟨0, 0, 0, 0, 0, 0, 0, 0⟩) 24 := by rw [hw1, hgc]; exact Bk.new _ _ _
 have B1 : Below w.heap.size w w1 := qa7r
 obtain ⟨w2, hw2⟩ : ∃ q, q = w1.setRow gc (dZ c15) := ⟨_, rfl⟩
 have X2 : Bk w2 gc (dZ c15) 24 := by rw [hw2]; exact X1.setRow _
 have B2 : Below w.heap.size w w2 := by rw [hw2]; exact below_setRow B1 aj _
 obtain ⟨w3, hw3⟩ : ∃ q, q = w2.alloc (.cells (opC o15) OTy) := ⟨_, rfl⟩
 have X3 : Bk w3 w2.heap.size (opC o15) OTy := by rw [hw3]; exact Bk.new _ _ _
 have B3 : Below w.heap.size w w3 := by rw [hw3]; exact B2.alloc B2.size _
 obtain ⟨w4, hw4⟩ : ∃ q, q = w3.alloc (.cells #[.slice (some ⟨w2.heap.size, 0, none⟩) 1 1] 25) := ⟨_, rfl⟩
 have X4 : Bk w4 w3.heap.size #[.slice (some ⟨w2.heap.size, 0, none⟩) 1 1] 25 := by rw [hw4]; exact Bk.new _ _ _
 have B34 : Below w3.heap.size w3 w4 := qa7s
 have B4 : Below w.heap.size w w4 := B3.trans (B34.mono B3.size)
 have Y3 := X3.keep B34
 have RP : iL w4 (.slice (some ⟨w3.heap.size, 0, none⟩) p15.length 1) p15 := by
  refine ⟨_, 1, rfl, Nat.le_refl _, by unfold maxLen; omega, .inr ⟨w3.heap.size, 0, rfl, X4.lt, fun i hi => ?_⟩⟩
  obtain rfl : i = 0 := by have : p15.length = 1 := rfl; omega
  refine ⟨.slice (some ⟨w2.heap.size, 0, none⟩) 1 1, X4.cells 0, ⟨_, 1, rfl, Nat.le_refl _, by unfold maxLen; omega, .inr ⟨w2.heap.size, 0, rfl, Y3.lt, fun j hj => ?_⟩⟩⟩
  obtain rfl : j = 0 := by have : (p15[0]'hi).length = 1 := rfl; omega
  exact fun k v hv => by
   have hv' : (opC o15).toList[k]? = some v := hv
   rw [Y3.cells, Nat.zero_add]
   simpa using hv'
 have e3 : w3.heap.size = w2.heap.size + 1 := qa5s
 rw [e3] at RP
 have HNW := Lib.hid (hNew_ok c15 ⟨by decide, by decide⟩ (some ⟨w2.heap.size + 1, 0, none⟩) p15 1 w4 RP qa7u)
 have HX1 := Lib.hid X1
 have HX2 := Lib.hid (X2.keep (by rw [hw3]; exact (Below.refl _ _).alloc (Nat.le_refl _) _) |>.keep B34)
 have HX2a := Lib.hid X2
 have HB4 := Lib.hid B4
 have HGC := Lib.hid hgc
 have HW1 := Lib.hid hw1
 have HW2 := Lib.hid hw2
 have HW3 := Lib.hid hw3
 have HW4 := Lib.hid hw4
 clear e3 hgc hw1 X1 B1 hw2 X2 B2 hw3 X3 B3 hw4 X4 B34 B4 Y3 RP
 go_enter Tryz.func22, Tryz.ntmps22
 go_upto_region 2 with (first | (refine wpList_alloc_cfg rfl rfl ?_; rw [← HW1.out, ← HGC.out]) | (refine wpList_store_row rfl 24 _ _ rfl gc (dZ c15) rfl rfl _ _ (by exact HX1.out) ah ah ah ?_; rw [← HW2.out]) | fail)
 go_wp2_with (first | (refine wpList_load_row rfl 24 _ rfl gc rfl _ (dZ c15) (0, 0) _ (by exact HX2a.out) Tryz.underlying24 rfl ah ?_) | fail)
 show Calls Tryz.prog _ #[cv c15, .slice (some ⟨w2.heap.size + 1, 0, none⟩) 1 1] ((w2.alloc (.cells (opC o15) OTy)).alloc (.cells #[.slice (some ⟨w2.heap.size, 0, none⟩) 1 1] 25)) _
 rw [← HW3.out, ← HW4.out]
 refine HNW.out.mono ?_
 rintro e w5 ⟨g, R, rfl, N5⟩
 have HN5 := Lib.hid N5
 clear N5
 go_wp2_with fail
 go_loopw [4] (fun i wr => ∃ n : Nat, n ≤ 14 ∧ i = .int .i64 (n : Int) ∧ ∃ Rn, RowKit.Hid (HP (fun b => w4.heap.size ≤ b ∧ b < w5.heap.size) g c15 R w5 Rn (h15 n) wr)) (fun i _ => 14 - (intOf i).toNat)
 case atStart => exact ⟨0, Nat.zero_le _, rfl, R, Lib.hid (HP.refl HN5.out.ha)⟩
 case round =>
  obtain ⟨n, hn, rfl, Rn, HPN⟩ := hrel
  obtain ⟨w6, hw6⟩ : ∃ q, q = wr := ⟨_, rfl⟩
  subst hw6
  by_cases hlt : n < 14
  ·have HPK := Lib.hid (hPick HPN.out.ha ⟨by decide, by decide⟩ ⟨by decide, by decide⟩ (wf15 n hlt).1 (wf15 n hlt).2 0)
   go_wp2_with fail
   refine HPK.out.mono ?_
   rintro e w7 ⟨rfl, R7, P7⟩
   have H7 := Lib.hid (HPN.out.trans P7)
   clear P7
   go_wp2
   go_roundw
   case rel => exact ⟨n + 1, by omega, by go_num, R7, Lib.hid (by rw [h15_succ]; exact H7.out)⟩
   case measure => simp [intOf]; omega
  ·obtain rfl : n = 14 := by omega
   have HEV := Lib.hid (hEvents HPN.out.ha (by rw [e15.1.1]; decide) (fun i q => e15.2 _ (List.getElem_mem q)))
   have HB6 : RowKit.Hid (Below w.heap.size w w6) := Lib.hid (by
    have h5 := HB4.out.trans (HN5.out.below.mono HB4.out.size)
    have h4s := HB4.out.size
    exact h5.trans (HPN.out.fr.belowB (fun b m => by have := (HN5.out.ha.sub b m).1; omega) h5.size))
   go_wp2_with fail
   refine HEV.out.mono ?_
   rintro e w7 ⟨y, es, rfl, EV, hb7⟩
   have hl : es.length = 16 := EV.len.trans e15.1.1
   have ek : ∀ i (q : i < es.length), es[i].kd = ((h15 14).ev.getD i ⟨evZ, []⟩).e.kd ∧ es[i].t = ((h15 14).ev.getD i ⟨evZ, []⟩).e.t := fun i q => by
    have q' : i < (h15 14).ev.length := by rw [← EV.len]; exact q
    have := (EV.ev i q q').eq
    rw [List.getD_eq_getElem?_getD, List.getElem?_eq_getElem q', this]
    exact ⟨rfl, rfl⟩
   obtain ⟨gy, cap, rfl, lty, y3⟩ := cell_ev EV 0 3 aj aj
   obtain ⟨gy2, cap2, e2, _, y303⟩ := cell_ev EV 15 3 aj aj
   obtain ⟨gy3, cap3, e3, _, y311⟩ := cell_ev EV 15 11 aj aj
   simp only [Sl.mk.injEq, Option.some.injEq, Addr.mk.injEq] at e2 e3
   obtain ⟨⟨e2, _⟩, _⟩ := e2
   obtain ⟨⟨e3, _⟩, _⟩ := e3
   subst e2
   subst e3
   have z3 : w7.cell? ⟨gy, 3, none⟩ = some (.int .i64 1) := y3.trans (by show some (Value.int .i64 es[0].kd) = _; rw [(ek 0 aj).1, e15.1.2.1])
   have z303 : w7.cell? ⟨gy, 303, none⟩ = some (.int .i64 4) := y303.trans (by show some (Value.int .i64 es[15].kd) = _; rw [(ek 15 aj).1, e15.1.2.2.1])
   have z311 : w7.cell? ⟨gy, 311, none⟩ = some (.int .u64 65537) := y311.trans (by show some (Value.int .u64 es[15].t) = _; rw [(ek 15 aj).2, e15.1.2.2.2])
   have HB7 := Lib.hid (HB6.out.trans (hb7.mono HB6.out.size))
   simp only [Sl.v]
   rw [hl]
   clear EV ek y3 y303 y311 hb7 hl
   go_wp2
   go_ret
   exact ⟨rfl, HB7.out⟩
end Go.Proofs.YtaiodbcnbcdokaaGreat.Ha
end
