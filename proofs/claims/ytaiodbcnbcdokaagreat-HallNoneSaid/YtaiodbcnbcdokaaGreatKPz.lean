/- What the parts share. -/
import Derived.OwnWalk
import Derived.BigQuiet
import Derived.BigRegion
import Derived.Deep.Cut
import Derived.Deep.CutRange
import Derived.Deep.MidRow
import Derived.Deep.QuietTactic
import Derived.Deep.RegionHeld3
import Derived.IntWalk
import Derived.LoopTactic
import Derived.OpenShut
import Derived.Outline
import Derived.RegionTactic
import Derived.StillTail
import Derived.WalkMore
import Derived.Test.YtaiodbcnbcdokaaGreatProg
set_option linter.unusedVariables false
namespace Go.Proofs.YtaiodbcnbcdokaaGreat
open Go
set_option linter.unusedVariables false
theorem jP {α : Type} : (∀ (l : List α) (i : Nat) (h : i < l.toArray.size), l.toArray[i]'h = l[i]'(by simpa using h)) ∧ (∀ (a : α) (l : List α) (i : Nat) (h : i + 1 < (a :: l).length), (a :: l)[i + 1]'h = l[i]'(by simpa using h)) ∧
    (∀ (a : α) (l : List α) (h : 0 < (a :: l).length), (a :: l)[0]'h = a) ∧ (∀ (l : List α) (i : Nat) (a : α), l.toArray.setIfInBounds i a = (l.set i a).toArray) ∧ (∀ (a b : α) (l : List α) (i : Nat), (a :: l).set (i + 1) b = a :: l.set i b) ∧ (∀ (a b : α) (l : List α), (a :: l).set 0 b = b :: l) :=
  ⟨fun _ _ _ => rfl, fun _ _ _ _ => rfl, fun _ _ _ => rfl, fun l i a => by simp, fun _ _ _ _ => rfl, fun _ _ _ => rfl⟩
section
variable {P : Program} {ops : Array Oper} {Q : Exit → Act → World → Prop} {md : Region.Mode} {S : World → Prop}
theorem jT (i : Nat) (v : Value) {oi : Oper} {fuel : Nat} {listed : Array Bool} {a : Act} {w : World} (hi : ops[i]? = some oi) (hS : S w)
    (h : wpAnyH P md ops Q S fuel (listed.setIfInBounds i true) (a.put oi.dst v) w)
    (hs : Region.noSelect ops = true := by kernel_rfl) (hf : Region.free md ops listed i = true := by kernel_rfl) (hr : (Region.ready md ops listed).contains i = true := by kernel_rfl)
    (hQ : ∀ c a w, Q (.panic c) (a.put oi.dst v) w → Q (.panic c) a w := by exact fun _ _ _ h => h) (hy : YieldsIf P ops S oi v a := by exact Or.inl ⟨by rfl, fun w' hSw => by go_simp⟩) : wpAnyH P md ops Q S (fuel + 1) listed a w :=
  wpAnyH_take hi hs hf hr hQ hy hS h
theorem jY (i : Nat) (v : Value) {oi : Oper} {fuel : Nat} {listed : Array Bool} {a : Act} {w : World} (hi : ops[i]? = some oi) (hy : YieldsIf P ops S oi v a) (hS : S w)
    (h : wpAnyH P md ops Q S fuel (listed.setIfInBounds i true) (a.put oi.dst v) w)
    (hs : Region.noSelect ops = true := by kernel_rfl) (hf : Region.free md ops listed i = true := by kernel_rfl) (hr : (Region.ready md ops listed).contains i = true := by kernel_rfl)
    (hQ : ∀ c a w, Q (.panic c) (a.put oi.dst v) w → Q (.panic c) a w := by exact fun _ _ _ h => h) : wpAnyH P md ops Q S (fuel + 1) listed a w :=
  wpAnyH_take hi hs hf hr hQ hy hS h
theorem jR (rs : List Nat) {fuel : Nat} {listed : Array Bool} {a : Act} {w : World} (h : AllReadyH P md ops Q S fuel listed a w rs) (hr : Region.ready md ops listed = rs := by kernel_rfl) (hne : rs ≠ [] := by simp) : wpAnyH P md ops Q S (fuel + 1) listed a w := wpAnyH_ready hr hne h
theorem jC {fuel : Nat} {listed : Array Bool} {a : Act} {w : World} {i : Nat} {o : Oper} {rs : List Nat} (ho : ops[i]? = some o)
    (h : ∀ K' : Act → World → Prop, Shut (∀ a w, S w → (S w → wpAnyH P md ops Q S fuel (listed.setIfInBounds i true) a w) → K' a w) → if Region.wanted o (yielded ops a.tmps) = true then Oper.wp P o a w K' Q else K' (a.put o.dst undef) w)
    (hs : AllReadyH P md ops Q S fuel listed a w rs) : AllReadyH P md ops Q S fuel listed a w (i :: rs) := AllReadyH.cons ho h hs
theorem jN {fuel : Nat} {listed : Array Bool} {a : Act} {w : World} : AllReadyH P md ops Q S fuel listed a w [] := AllReadyH.nil
end
theorem jB {a m k : Int} {b : Bool} (h : a = m) (hk : (m == k) = b := by rfl) : (a == k) = b := by rw [h, hk]
theorem qa0 {P : Prop} (h : P := by
 simp only [Sl.v, Value.slice.injEq] at he
 exact he.2.1) : P := h
theorem qa1 {P : Prop} (h : P := by
 rw [Addr.add_lit]
 rw [List.getElem?_map] at hu
 obtain ⟨x, hx, rfl⟩ := Option.map_eq_some_iff.1 hu
 obtain ⟨hj, rfl⟩ := List.getElem?_eq_some_iff.1 hx
 exact hc j hj) : P := h
theorem qa2 {P : Prop} (h : P := by
 refine ⟨by simp, .inr ⟨w.heap.size, grownCap w (d.len + M.length) d.cap e, _, by simp only [Sl.v, List.length_append, hlen], hbase, heap_alloc_new w.drew _, by rw [List.length_append, ← hlen]; exact hge, hcm, ?_, ?_⟩⟩
 ·rw [Array.size_append, size_zeroCells, hzs]
  simp only [List.size_toArray, List.length_append, List.length_map]
  omega
 ·rw [Array.toList_append, List.map_append]
  exact List.take_left' aF) : P := h
theorem qa3 {P : Prop} (h : P := by
 rw [← HLEN.out]
 exact Rw.results_cell_slot (p := 4) (q := 5) (ty := 46) Tryz.results174 _ _ (w.heap.size + 1 + 1) 46 _ (0, 0) _ rfl T3.Z Tryz.underlying46 rfl ah) : P := h
theorem qa4 {P : Prop} (h : P := by exact (((A2.keep (w' := w2.drew) (Below.drew (Below.refl _ _))).setRow (g := w.heap.size + 1 + 1) aj (wc s')).dL.base bq)) : P := h
theorem qa5 {P : Prop} (h : P := by exact Rw.results_cell_slot (p := 2) (q := 3) (ty := 46) Tryz.results211 _ _ (w.heap.size + 1) 46 _ (0, 0) _ rfl T2.Z Tryz.underlying46 rfl ah) : P := h
theorem qa6 {P : Prop} (h : P := by exact (A1.setRow (g := w.heap.size + 1) qa6m _).base qa6m) : P := h
theorem qa7 {P : Prop} (h : P := by exact Rw.results_cell_slot (p := 2) (q := 3) (ty := 46) Tryz.results211 _ _ (w.heap.size + 1) 46 _ (0, 0) _ rfl T5.Z Tryz.underlying46 rfl ah) : P := h
theorem qa8 {P : Prop} (h : P := by exact Rw.results_cell_slot (p := 6) (q := 7) (ty := 46) Tryz.results212 _ _ (w.heap.size + 1 + 1) 46 _ (0, 0) _ rfl T6.Z Tryz.underlying46 rfl ah) : P := h
theorem qa9 {P : Prop} (h : P := by exact ((A3.setRow (g := w.heap.size + 1 + 1) aj _).dL).base aj) : P := h
theorem qaa {P : Prop} (h : P := by
 split
 ·exact ⟨by omega, by omega, by omega, by omega, by omega, by omega⟩
 ·exact ⟨by simp; omega, by simp <;> omega, by simp <;> omega, by simp <;> omega, by simp; omega, by simp; omega⟩) : P := h
theorem qab {P : Prop} (h : P := by
 go_enter Tryz.func186, Tryz.ntmps186
 go_wp2
 go_ret
 exact ⟨rfl, hb⟩) : P := h
theorem qac {P : Prop} (h : P := by
 subst e
 have := hg.symm.trans hh
 simp only [Option.some.injEq, Obj.cells.injEq] at this
 exact ht this.2.1) : P := h
theorem qad {P : Prop} (h : P := by exact results_cell_row (p := 4) (ty := 46) Tryz.results161 _ _ (w.heap.size + 1) 46 _ (0, 0) _ rfl Q7.Z Tryz.underlying46 rfl ah) : P := h
theorem qae {P : Prop} (h : P := by
 go_enter Tryz.func93, Tryz.ntmps93
 go_wp2_with (first | ((with_reducible refine au rfl rfl ?_); rw [← hv0]; clear hv0) | (refine wpList_load_row rfl 46 _ rfl (w.heap.size + 1) rfl _ (wc s) (0, 0) _ bT Tryz.underlying46 rfl ah ?_))
 refine HC.out.mono ?_
 rintro e w9 ⟨s9, rfl, A9, hb9⟩
 have T9 := T0.keep hb9
 exact qa4c) : P := h
theorem qaf {P : Prop} (h : P := by
 have hbc : Below w.heap.size w (w.alloc (.cells (ccM c) 24)) := (Below.refl _ _).alloc (Nat.le_refl _) _
 have cO : (w.alloc (.cells (ccM c) 24)).heap.size = w.heap.size + 1 := aF
 have T0 := Two.aY hbc s
 rw [cO] at T0
 have AQ := (A.mono (Q := fun b => P b ∧ b ≠ w.heap.size + 1 ∧ b ≠ w.heap.size + 1 + 1) (fun b hb q => ⟨q, by omega, by omega⟩)).keep T0.below
 obtain ⟨v0, hv0⟩ : ∃ u, u = ((w.alloc (.cells (ccM c) 24)).alloc (.cells (wc s) 46)).alloc (.cells (wc wz) 46) := ⟨_, rfl⟩
 rw [← hv0] at T0 AQ
 have x0 := T0.X.cells
 have z0 := T0.X.frozen
 have C0 : Bk v0 w.heap.size (ccM c) 24 := qa6y
 have lt9 := T0.lt
 have HG := Lib.hid (eGood c hf t0 ht v0)
 rw [hgd] at HG
 unfold LvRet at HG
 go_enter Tryz.func93, Tryz.ntmps93
 go_wp2_with (first | ((with_reducible refine au rfl rfl ?_); rw [← hv0]; clear hv0) | (refine wpList_load_row rfl 24 _ rfl w.heap.size rfl _ (ccM c) (0, 0) _ qa6z Tryz.underlying24 rfl ah ?_))
 refine HG.out.mono ?_
 rintro en w5 ⟨rfl, hb5⟩
 have T5 := T0.keep hb5
 have A5 := AQ.keep hb5
 have l6 := T5.below.size
 have l7 := hb5.size
 have HP' : ∀ b, w5.heap.size ≤ b → (P b ∧ b ≠ w.heap.size + 1 ∧ b ≠ w.heap.size + 1 + 1) := fun b hb => ⟨hP b aj, by omega, by omega⟩
 have HC := Lib.hid (fEnter HP' A5 hx)
 exact qa43) : P := h
theorem qag {P : Prop} (h : P := by
 have hbc : Below w.heap.size w (w.alloc (.cells (ccM c) 24)) := (Below.refl _ _).alloc (Nat.le_refl _) _
 have cO : (w.alloc (.cells (ccM c) 24)).heap.size = w.heap.size + 1 := aF
 have T0 := Two.aY hbc s
 rw [cO] at T0
 have AQ := (A.mono (Q := fun b => P b ∧ b ≠ w.heap.size + 1 ∧ b ≠ w.heap.size + 1 + 1) (fun b hb q => ⟨q, by omega, by omega⟩)).keep T0.below
 obtain ⟨v0, hv0⟩ : ∃ u, u = ((w.alloc (.cells (ccM c) 24)).alloc (.cells (wc s) 46)).alloc (.cells (wc wz) 46) := ⟨_, rfl⟩
 rw [← hv0] at T0 AQ
 have x0 := T0.X.cells
 have z0 := T0.X.frozen
 have C0 : Bk v0 w.heap.size (ccM c) 24 := qa6y
 have lt9 := T0.lt
 have HG := Lib.hid (eGood c hf t0 ht v0)
 rw [hgd] at HG
 unfold LvRet at HG
 go_enter Tryz.func93, Tryz.ntmps93
 go_wp2_with (first | ((with_reducible refine au rfl rfl ?_); rw [← hv0]; clear hv0) | (refine wpList_load_row rfl 24 _ rfl w.heap.size rfl _ (ccM c) (0, 0) _ qa6z Tryz.underlying24 rfl ah ?_))
 refine HG.out.mono ?_
 rintro en w5 ⟨rfl, hb5⟩
 have T5 := T0.keep hb5
 have A5 := AQ.keep hb5
 have l6 := T5.below.size
 have l7 := hb5.size
 have HP' : ∀ b, w5.heap.size ≤ b → (P b ∧ b ≠ w.heap.size + 1 ∧ b ≠ w.heap.size + 1 + 1) := fun b hb => ⟨hP b aj, by omega, by omega⟩
 have HC := Lib.hid (fEnd HP' A5 8)
 exact qa43) : P := h
theorem qah {P : Prop} (h : P := by
 have HU := Lib.hid (fun w => Pk.unentry v h0 h1 w)
 clear hs h0 h1
 go_enter Tryz.func91, Tryz.ntmps91
 go_wp2_with fail
 refine (HU.out _).mono ?_
 rintro en w1 ⟨rfl, rfl⟩
 go_wp2
 go_ret2
 exact ⟨rfl, rfl⟩) : P := h
theorem qai {P : Prop} (h : P := by
 have e1 := HV.out
 subst e1
 exact ⟨rfl, H3⟩) : P := h
theorem qaj {P : Prop} (h : P := by
 have xw3 := H3.X.cells
 have zw3 := H3.X.frozen
 have ew3_0 : (w3.cell? ⟨gx, 0, none⟩).isSome = true := by rw [xw3, f0]; rfl
 go_wp2
 go_ret
 exact ⟨rfl, H4⟩) : P := h
theorem qak {P : Prop} (h : P := by
 rw [HB.out] at hcas
 have HCA := Lib.hid hcas
 clear hcas x0 m0 lx lg h hb2
 go_wp2_with fail
 refine HCA.out.mono ?_
 rintro en w3 ⟨rfl, M3, T3⟩
 have H3 := H2.mem M3 T3
 clear H2 M3 T3
 have H4 := H3.set (s' := { s with p := { s.p with ln := 42 } }) 0 (.int .i64 42) rfl
 exact qaj) : P := h
theorem qal {P : Prop} (h : P := by
 clear  hb
 have f0 : ∀ s : Wk, (wc s)[0]? = some (.int .i64 s.p.ln) := fun _ => rfl
 have t20 : (s.p.ln == 20) = false := jB hl
 have t21 : (s.p.ln == 21) = false := jB hl
 have t22 : (s.p.ln == 22) = false := jB hl
 have t23 : (s.p.ln == 23) = false := jB hl
 have t24 : (s.p.ln == 24) = false := jB hl
 have t25 : (s.p.ln == 25) = false := jB hl
 have t40 : (s.p.ln == 40) = false := jB hl
 have t41 : (s.p.ln == 41) = false := jB hl
 have t42 : (s.p.ln == 42) = true := jB hl
 exact qa44) : P := h
theorem qam {P : Prop} (h : P := by
 clear  hb
 have f0 : ∀ s : Wk, (wc s)[0]? = some (.int .i64 s.p.ln) := fun _ => rfl
 have t20 : (s.p.ln == 20) = false := jB hl
 have t21 : (s.p.ln == 21) = false := jB hl
 have t22 : (s.p.ln == 22) = false := jB hl
 have t23 : (s.p.ln == 23) = false := jB hl
 have t24 : (s.p.ln == 24) = false := jB hl
 have t25 : (s.p.ln == 25) = false := jB hl
 have t40 : (s.p.ln == 40) = false := jB hl
 have t41 : (s.p.ln == 41) = false := jB hl
 have t42 : (s.p.ln == 42) = false := jB hl
 have t44 : (s.p.ln == 44) = true := jB hl
 exact qa44) : P := h
theorem qan {P : Prop} (h : P := by
 clear  hb
 have f0 : ∀ s : Wk, (wc s)[0]? = some (.int .i64 s.p.ln) := fun _ => rfl
 have t20 : (s.p.ln == 20) = false := jB hl
 have t21 : (s.p.ln == 21) = false := jB hl
 have t22 : (s.p.ln == 22) = false := jB hl
 have t23 : (s.p.ln == 23) = false := jB hl
 have t24 : (s.p.ln == 24) = false := jB hl
 have t25 : (s.p.ln == 25) = false := jB hl
 have t40 : (s.p.ln == 40) = false := jB hl
 have t41 : (s.p.ln == 41) = false := jB hl
 have t42 : (s.p.ln == 42) = false := jB hl
 have t44 : (s.p.ln == 44) = false := jB hl
 have t46 : (s.p.ln == 46) = true := jB hl
 exact qa44) : P := h
theorem qao {P : Prop} (h : P := by
 clear  hb
 have f0 : ∀ s : Wk, (wc s)[0]? = some (.int .i64 s.p.ln) := fun _ => rfl
 have t20 : (s.p.ln == 20) = false := jB hl
 have t21 : (s.p.ln == 21) = false := jB hl
 have t22 : (s.p.ln == 22) = false := jB hl
 have t23 : (s.p.ln == 23) = false := jB hl
 have t24 : (s.p.ln == 24) = false := jB hl
 have t25 : (s.p.ln == 25) = false := jB hl
 have t40 : (s.p.ln == 40) = false := jB hl
 have t41 : (s.p.ln == 41) = false := jB hl
 have t42 : (s.p.ln == 42) = false := jB hl
 have t44 : (s.p.ln == 44) = false := jB hl
 have t46 : (s.p.ln == 46) = false := jB hl
 have t60 : (s.p.ln == 60) = true := jB hl
 exact qa44) : P := h
theorem qap {P : Prop} (h : P := by
 clear  hb
 have f0 : ∀ s : Wk, (wc s)[0]? = some (.int .i64 s.p.ln) := fun _ => rfl
 have t20 : (s.p.ln == 20) = false := jB hl
 have t21 : (s.p.ln == 21) = false := jB hl
 have t22 : (s.p.ln == 22) = false := jB hl
 have t23 : (s.p.ln == 23) = false := jB hl
 have t24 : (s.p.ln == 24) = false := jB hl
 have t25 : (s.p.ln == 25) = false := jB hl
 have t40 : (s.p.ln == 40) = false := jB hl
 have t41 : (s.p.ln == 41) = false := jB hl
 have t42 : (s.p.ln == 42) = false := jB hl
 have t44 : (s.p.ln == 44) = false := jB hl
 have t46 : (s.p.ln == 46) = false := jB hl
 have t60 : (s.p.ln == 60) = false := jB hl
 have t43 : (s.p.ln == 43) = false := jB hl
 have t45 : (s.p.ln == 45) = true := jB hl
 exact qa44) : P := h
theorem qaq {P : Prop} (h : P := by
 clear  hg hb
 have f0 : ∀ s : Wk, (wc s)[0]? = some (.int .i64 s.p.ln) := fun _ => rfl
 have t20 : (s.p.ln == 20) = false := jB hl
 have t21 : (s.p.ln == 21) = false := jB hl
 have t22 : (s.p.ln == 22) = false := jB hl
 have t23 : (s.p.ln == 23) = false := jB hl
 have t24 : (s.p.ln == 24) = false := jB hl
 have t25 : (s.p.ln == 25) = false := jB hl
 have t40 : (s.p.ln == 40) = false := jB hl
 have t41 : (s.p.ln == 41) = false := jB hl
 have t42 : (s.p.ln == 42) = false := jB hl
 have t44 : (s.p.ln == 44) = false := jB hl
 have t46 : (s.p.ln == 46) = false := jB hl
 have t60 : (s.p.ln == 60) = false := jB hl
 have t43 : (s.p.ln == 43) = true := jB hl
 exact qa44) : P := h
theorem qar {P : Prop} (h : P := by
 clear h hp ht ha h1
 exact qa45) : P := h
theorem qas {P : Prop} (h : P := by
 clear he
 have f0 : ∀ s : Wk, (wc s)[0]? = some (.int .i64 s.p.ln) := fun _ => rfl
 have f9 : ∀ s : Wk, (wc s)[9]? = some (.int .u64 s.p.ep) := fun _ => rfl
 have t1 : (s.p.ln == 1) = false := jB hl
 have t2 : (s.p.ln == 2) = false := jB hl
 have t3 : (s.p.ln == 3) = true := jB hl
 exact qa4d) : P := h
theorem qat {P : Prop} (h : P := by
 clear ho hj
 exact qa46) : P := h
theorem qau {P : Prop} (h : P := by
 have HB := Lib.hid hb
 clear hb
 have f0 : ∀ s : Wk, (wc s)[0]? = some (.int .i64 s.p.ln) := fun _ => rfl
 have f25 : ∀ s : Wk, (wc s)[25]? = some (.int .u64 s.p.v) := fun _ => rfl
 have t1 : (s.p.ln == 1) = false := jB hl
 have t2 : (s.p.ln == 2) = false := jB hl
 have t3 : (s.p.ln == 3) = false := jB hl
 have t90 : (s.p.ln == 90) = false := jB hl
 have t70 : (s.p.ln == 70) = false := jB hl
 have t71 : (s.p.ln == 71) = false := jB hl
 have t72 : (s.p.ln == 72) = true := jB hl
 have x0 := h.X.cells
 clear hl
 go_enter Tryz.func159, Tryz.ntmps159
 have lx := h.lt
 go_wp2
 refine aH 10 ah ah ?_
 simp only [List.take_succ_cons, List.take_zero, List.drop_succ_cons, List.drop_zero]
 have hg := @cK
 repeat (go_big_quiet_step (fail))
 refine wpQuiet_nil ?_
 rintro w1 ⟨⟨_, hb1⟩, rfl⟩
 clear hg
 have H1 := h.keep hb1
 have hcas := iw H1.M hm 0 s.p.v (IntKind.u64.wrap (s.p.v + 1))
 rw [HB.out] at hcas
 have HCA := Lib.hid hcas
 clear hcas x0 lx hb1
 go_wp2_with fail
 refine HCA.out.mono ?_
 rintro en w2 ⟨rfl, M2, T2⟩
 have H2 := H1.mem M2 T2
 go_wp2
 go_ret2
 exact ⟨rfl, H2⟩) : P := h
theorem qav {P : Prop} (h : P := by
 have h : (Tryz.prog.info? 22).map (fun i => (i.zero, i.size, i.bytes)) = some (some (.int .u64 0), 1, 8) := ah
 exact info_parts h) : P := h
theorem qaw {P : Prop} (h : P := by
 have := gT (a := c.sl * c.bl) (b := 1 + c.wd) (A := 128) (B := 5) h2.2.1 h2.2.2 aj aj
 omega) : P := h
theorem qax {P : Prop} (h : P := by
 go_roundw
 case rel => exact ⟨k + 1, by omega, by go_num, fin_own L c.en k hlt hown2 HV.out, (drewN_alloc hbr _ _).trans hb2'⟩
 case measure => simp [intOf]; omega) : P := h
theorem qay {P : Prop} (h : P := by
 obtain ⟨hv, k0, a0, a2, k3, k4, l4⟩ := W
 have HV := Lib.hid hv
 clear hv
 clear hr4
 go_wp2_with (go_at_call 71; refine (Pk.rentry 1 (-1) 0 aL aL _).mono ?_; rw [en100]; rintro e w4 ⟨rfl, rfl⟩)
 go_quiet (fail)
 go_wp2_with (at_builtin; refine dX elem44 rfl _ _ rfl w2.heap.size _ _ _ rfl (World.ownsRow.alloc (show World.ownsRow (wr.drewN _) w2.heap.size 22 1 _ k _ from hown) _) wr.heap.size 1 1 [.int .u64 0] rfl rfl (eZ _ _ _) one1 aL aj qa4t ?_; intro v' w' hown2 hb2')
 exact qax) : P := h
theorem qaz {P : Prop} (h : P := by
 go_enter Tryz.func131, Tryz.ntmps131
 go_wp2_with (first | ((with_reducible refine au rfl rfl ?_); rw [← hv0]; clear hv0) | (refine wpList_load_row rfl 46 _ rfl (w.heap.size) rfl _ (wc s) (0, 0) _ bT Tryz.underlying46 rfl ah ?_))
 refine HC.out.mono ?_
 rintro e w9 ⟨s9, rfl, A9, hb9⟩
 have T9 := T0.keep hb9
 go_wp2_with (first | (refine wpList_store_row rfl 46 _ _ rfl (w.heap.size + 1) (wc s9) rfl rfl _ _ eP ah ah ah ?_))
 have ZF := T9.bN s9
 refine bodyPost_ret (v := wv s9) ?_ rfl ⟨s9, rfl, ((A9.row (g := w.heap.size + 1) (fun q => q.2.2 rfl) _).mono (fun b _ q => q.1)), ZF.below⟩
 exact results_cell_row (p := 2) (ty := 46) Tryz.results131 _ _ (w.heap.size + 1) 46 _ (0, 0) _ rfl ZF.Z Tryz.underlying46 rfl ah) : P := h
theorem qa10 {P : Prop} (h : P := by
 rw [if_pos hw]
 obtain ⟨es', c', hr, hL⟩ := run_upd K ht h k y
 unfold Oper.wp
 simp [execOp, ho, hm, hx, hv, hr, Result.andThen]
 have h1 := mapAt_set (c' := c') h hL
 obtain ⟨es, clock, hb, _⟩ := h
 exact hK _ _ (hn _ h1 (Only.of_set hb _))) : P := h
theorem qa11 {P : Prop} (h : P := by
 go_wp2
 obtain ⟨w1, hw1⟩ : ∃ u, u = w.alloc (.cells #[.int .i64 k, .int .u64 a, .int .u64 b, .int .i64 c, .bool d, .int .i64 e, .int .i64 f] 30) := ⟨_, rfl⟩
 rw [← hw1] at K0 hb0 ⊢
 clear hw1
 have hS0 : Below w1.heap.size w1 w1.drew := Below.drew (Below.refl _ _)
 refine wp_region_held_drew (S := fun w' => Below w1.heap.size w1 w') ah hS0 (fun hHeld => ?_)
 clear hS0
 generalize w1.drew = z0 at *
 refine jT 1 (.pointer (some ⟨w.heap.size, 0, none⟩)) rfl hHeld ?_
 try simp only [Act.put, jP]
 refine jY 2 (.int .i64 k) rfl (Or.inl ⟨by rfl, fun w' hSw => by have xx := (K0.keep hSw).cells; go_simp⟩) hHeld ?_
 try simp only [Act.put, jP]
 refine jR [0] ?_
 refine jC rfl (fun K hK => ?_) jN
 go_simp
 refine (shapes _).mono ?_
 rintro en z1 ⟨b9, rfl, MM, hb9, hb⟩
 have dH := hHeld.trans (hb.mono hHeld.size)
 refine hK.out _ _ dH (fun hHeld => ?_)
 clear hK K dH
 try simp only [Act.put, jP]
 refine jR [3] ?_
 refine jC rfl (fun K hK => ?_) jN
 obtain ⟨n, nu, sl, hlk⟩ := iY MM k
 rw [← HBB.out] at hlk
 unfold shV at hlk
 go_simp
 refine hK.out _ _ hHeld (fun hHeld => ?_)
 clear hK K hlk MM
 try simp only [Act.put, jP]
 refine jT 4 (.bool bb) rfl hHeld ?_
 try simp only [Act.put, jP]
 refine jT 5 (.bool bb) rfl hHeld ?_
 try simp only [Act.put, jP]
 refine wpAnyH_done ah ?_ _
 have hb8 := hb0.trans (hHeld.mono hb0.size)
 go_wp2
 go_ret
 exact ⟨rfl, hb8⟩) : P := h
theorem qa12 {P : Prop} (h : P := by
 subst hl
 have HG := Lib.hid (givePark h hm hL hf x hx A hp hn hg)
 have HOK := Lib.hid (gvPark_ok c a L x)
 exact qa3z) : P := h
theorem qa13 {P : Prop} (h : P := by
 subst hl
 have HG := Lib.hid (givePush h hm hL hf x hx A hp hn hg)
 have HOK := Lib.hid (gvPush_ok c a L x)
 exact qa3z) : P := h
theorem qa14 {P : Prop} (h : P := by exact Rw.results_cell_slot (p := 2) (q := 3) (ty := 46) Tryz.results188 _ _ (w.heap.size + 1) 46 _ (0, 0) _ rfl T5.Z Tryz.underlying46 rfl ah) : P := h
theorem qa15 {P : Prop} (h : P := by exact aQ.base ⟨by rw [← HP.out, HK.out], L5.rk, L5.l0, L5.l1, L5.l2, L5.hl, L5.rd⟩ aj) : P := h
theorem qa16 {P : Prop} (h : P := by
 go_wp2_with (first | (refine wpList_load_row rfl 46 _ rfl (gx) rfl _ (wc s) (0, 0) _ qa5m Tryz.underlying46 rfl ah ?_))
 refine HS.out.mono ?_
 rintro e w1 ⟨s2, rfl, A2, M2, T2⟩
 have H2 := h.mem M2 T2
 clear X0
 have b3 := bH w1 s2
 have Z3 := dx w1 s2
 have H3 := H2.keep b3
 have A3 := A2.dL.keep b3
 have Y1 : Bk (w1.alloc (.cells (wc wz) 46)) w1.heap.size (wc wz) 46 := Bk.new _ _ _
 have sz3 : n ≤ w1.heap.size := qa5r
 obtain ⟨w3, hw3⟩ : ∃ u, u = (w1.alloc (.cells (wc wz) 46)).setRow w1.heap.size (wc s2) := ⟨_, rfl⟩
 have sz4 : w1.heap.size ≤ w3.heap.size := qa5s
 rw [← hw3] at b3 Z3 H3 A3
 have H4 := H3.row s2
 have X3 := H3.X
 have A4 := (A3.base hn).setRow hg (wc s2)
 obtain ⟨w5, hw5⟩ : ∃ u, u = w3.setRow gx (wc s2) := ⟨_, rfl⟩
 have sz5 : w3.heap.size = w5.heap.size := qa5t
 rw [← hw5] at H4 A4
 have ep := A2.p
 simp only at ep
 clear H2 A2 M2 T2
 have HEP := Lib.hid ep
 clear ep
 go_wp2_with (first | ((with_reducible refine au rfl rfl ?_)) | (refine wpList_store_row rfl 46 _ _ rfl (w1.heap.size) (wc s2) rfl rfl _ _ qa5n ah ah ah ?_; rw [← hw3]; clear hw3 Y1) | (refine wpList_load_row rfl 46 _ rfl (w1.heap.size) rfl _ (wc s2) (0, 0) _ qa5o Tryz.underlying46 rfl ah ?_) | (refine wpList_store_row rfl 46 _ _ rfl (gx) (wc s2) rfl rfl _ _ qa5p ah ah ah ?_; rw [← hw5]; clear hw5 X3))
 go_ret
 exact ⟨s2, rfl, H4, A4⟩) : P := h
theorem qa17 {P : Prop} (h : P := by
 go_wp2_with (first | ((with_reducible refine au rfl rfl ?_)) | (refine wpList_store_row rfl 46 _ _ rfl (w1.heap.size) (wc s2) rfl rfl _ _ qa5n ah ah ah ?_; rw [← hw3]; clear hw3 Y1) | (refine wpList_load_row rfl 46 _ rfl (w1.heap.size) rfl _ (wc s2) (0, 0) _ qa5o Tryz.underlying46 rfl ah ?_) | (refine wpList_store_row rfl 46 _ _ rfl (gx) (wc s2) rfl rfl _ _ qa5p ah ah ah ?_; rw [← hw5]; clear hw5 X3))
 refine HG.out.mono ?_
 rintro e w6 ⟨s6, rfl, H6, A6'⟩
 go_wp2
 go_ret
 exact ⟨s6, rfl, H6, A6'⟩) : P := h
theorem qa18 {P : Prop} (h : P := by exact ⟨by have := h.rk; simp; omega, by have := h.l0; simp; omega, by have := h.l1; simp; omega, by have := h.l2; simp; omega, by have := h.hl; simp; omega, by have := h.rd; simp; omega⟩) : P := h
theorem qa19 {P : Prop} (h : P := by
 try simp only [Act.put, jP]
 refine jR [9] ?_
 refine jC rfl (fun K hK => ?_) jN
 go_simp
 have hpt := rackPut c s2 { x with p := rp } HX'.out kk _ A5.lies
 rw [show decide ((({ x with p := rp } : St).rk.length : Int) < c.rk) = _ from HDC.out] at hpt
 refine hpt.mono ?_
 rintro e z1 ⟨s7, rfl, L7, hb⟩
 have hM1 := (H5.keep hb).M.B
 refine hK.out _ _ hM1 (fun hHeld => ?_)
 clear hK K
 try simp only [Act.put, jP]
 refine jT 10 (.tuple #[wv s7, .bool true]) rfl hHeld ?_
 try simp only [Act.put, jP]
 refine jT 11 (wv s7) rfl hHeld ?_
 try simp only [Act.put, jP]
 have hM2 := hM1.aJ (g' := w1.heap.size) nb1.symm (wc s7)
 refine jR [12, 13] ?_
 refine jC rfl (fun K hK => ?_) (jC rfl (fun K hK => ?_) jN)
 go_simp
 refine hK.out _ _ hHeld (fun hHeld => ?_)
 clear hK K
 try simp only [Act.put, jP]
 refine jR [13] ?_
 refine jC rfl (fun K hK => ?_) jN
 refine dh rfl 46 _ _ rfl (w1.heap.size) (wc s7) rfl rfl 46 (wc s2) qa7w ah ah ah ?_
 refine hK.out _ _ hM2 (fun hHeld => ?_)
 clear hK K
 rotate_left
 refine dh rfl 46 _ _ rfl (w1.heap.size) (wc s7) rfl rfl 46 (wc s2) qa7w ah ah ah ?_
 refine hK.out _ _ hM2 (fun hHeld => ?_)
 clear hK K
 try simp only [Act.put, jP]
 refine jT 12 (.bool true) rfl hHeld ?_
 rotate_left
 all_goals
  try simp only [Act.put, jP]
  refine jT 14 (.bool true) rfl hHeld ?_
  try simp only [Act.put, jP]
  refine wpAnyH_done ah ?_ _
  have gz1 := hb.size
  have H6 := (H5.keep hb).box (bx := w1.heap.size) sz0 nb1 nb2 nb3 (wc s7)
  have Z6 := (Z5.keep hb).setRow (wc s7)
  have A6 := L7.setRow (g := w1.heap.size) aj (wc s7)
  obtain ⟨z2, hz2⟩ : ∃ u, u = z1.setRow w1.heap.size (wc s7) := ⟨_, rfl⟩
  have gz2 : z1.heap.size = z2.heap.size := by rw [hz2]; simp
  rw [← hz2] at H6 Z6 A6 ⊢
  clear hz2 hb L7 xg xb H5 Z5 A5
  have X6 := H6.X
  have H7 := H6.row s7
  have A7 := (A6.base (B' := n) aj).setRow hg (wc s7)
  obtain ⟨z3, hz3⟩ : ∃ u, u = z2.setRow gx (wc s7) := ⟨_, rfl⟩
  have gz3 : z2.heap.size = z3.heap.size := by rw [hz3]; simp
  rw [← hz3] at H7 A7
  have x7 := H7.X.cells
  have z7 := H7.X.frozen
  have e7 : (z3.cell? ⟨gx, 19, none⟩).isSome = true := by rw [x7, f19]; rfl
  have H8 := H7.set (s' := { s7 with p := { s7.p with k := 0 } }) 19 (.int .i64 0) rfl
  have A8 := A7.setCell hg 19 (.int .i64 0)
  have hyp : s7.p = (putS c.rk { x with p := rp } kk).p := A6.p
  have A9 : aQ n (z3.setCell ⟨gx, 19, none⟩ (.int .i64 0)) ({ s7 with p := { s7.p with k := 0 } } : Wk) { putS c.rk { x with p := rp } kk with p := { (putS c.rk { x with p := rp } kk).p with k := 0 } } := ⟨by rw [hyp], A8.rk, A8.l0, A8.l1, A8.l2, A8.hl, A8.rd⟩
  have HG := Lib.hid (giveAgain H8 _ (few_put hx c.rk kk 0) A9 bq hg)
  clear A8 A9 H8 hyp
  go_wp2_with (first | (refine wpList_load_row rfl 46 _ rfl (w1.heap.size) rfl _ (wc s7) (0, 0) _ qa73 Tryz.underlying46 rfl ah ?_) | (refine wpList_store_row rfl 46 _ _ rfl (gx) (wc s7) rfl rfl _ _ (by exact X6) ah ah ah ?_; rw [← hz3]; clear hz3 X6))
  refine HG.out.mono ?_
  rintro e w6 ⟨s6, rfl, H6', A6'⟩
  go_wp2
  go_ret
  exact ⟨s6, rfl, H6', A6'⟩) : P := h
theorem qa1a {P : Prop} (h : P := by
 try simp only [Act.put, jP]
 refine jR [9] ?_
 refine jC rfl (fun K hK => ?_) jN
 go_simp
 have hpt := rackPut c s2 { x with p := rp } HX'.out kk _ A5.lies
 rw [show decide ((({ x with p := rp } : St).rk.length : Int) < c.rk) = _ from HDC.out] at hpt
 refine hpt.mono ?_
 rintro e z1 ⟨s7, rfl, L7, hb⟩
 have hM1 := (H5.keep hb).M.B
 refine hK.out _ _ hM1 (fun hHeld => ?_)
 clear hK K
 try simp only [Act.put, jP]
 refine jT 10 (.tuple #[wv s7, .bool false]) rfl hHeld ?_
 try simp only [Act.put, jP]
 refine jT 11 (wv s7) rfl hHeld ?_
 try simp only [Act.put, jP]
 have hM2 := hM1.aJ (g' := w1.heap.size) nb1.symm (wc s7)
 refine jR [12, 13] ?_
 refine jC rfl (fun K hK => ?_) (jC rfl (fun K hK => ?_) jN)
 go_simp
 refine hK.out _ _ hHeld (fun hHeld => ?_)
 clear hK K
 try simp only [Act.put, jP]
 refine jR [13] ?_
 refine jC rfl (fun K hK => ?_) jN
 refine dh rfl 46 _ _ rfl (w1.heap.size) (wc s7) rfl rfl 46 (wc s2) qa7w ah ah ah ?_
 refine hK.out _ _ hM2 (fun hHeld => ?_)
 clear hK K
 rotate_left
 refine dh rfl 46 _ _ rfl (w1.heap.size) (wc s7) rfl rfl 46 (wc s2) qa7w ah ah ah ?_
 refine hK.out _ _ hM2 (fun hHeld => ?_)
 clear hK K
 try simp only [Act.put, jP]
 refine jT 12 (.bool false) rfl hHeld ?_
 rotate_left
 all_goals
  try simp only [Act.put, jP]
  refine jT 14 (.bool false) rfl hHeld ?_
  try simp only [Act.put, jP]
  refine wpAnyH_done ah ?_ _
  have gz1 := hb.size
  have H6 := (H5.keep hb).box (bx := w1.heap.size) sz0 nb1 nb2 nb3 (wc s7)
  have Z6 := (Z5.keep hb).setRow (wc s7)
  have A6 := L7.setRow (g := w1.heap.size) aj (wc s7)
  obtain ⟨z2, hz2⟩ : ∃ u, u = z1.setRow w1.heap.size (wc s7) := ⟨_, rfl⟩
  have gz2 : z1.heap.size = z2.heap.size := by rw [hz2]; simp
  rw [← hz2] at H6 Z6 A6 ⊢
  clear hz2 hb L7 xg xb H5 Z5 A5
  have X6 := H6.X
  have H7 := H6.row s7
  have A7 := (A6.base (B' := n) aj).setRow hg (wc s7)
  obtain ⟨z3, hz3⟩ : ∃ u, u = z2.setRow gx (wc s7) := ⟨_, rfl⟩
  have gz3 : z2.heap.size = z3.heap.size := by rw [hz3]; simp
  rw [← hz3] at H7 A7
  have x7 := H7.X.cells
  have z7 := H7.X.frozen
  have e7 : (z3.cell? ⟨gx, 0, none⟩).isSome = true := by rw [x7, f0]; rfl
  have H8 := H7.set (s' := { s7 with p := { s7.p with ln := 13 } }) 0 (.int .i64 13) rfl
  have A8 := A7.setCell hg 0 (.int .i64 13)
  have hyp : s7.p = (putS c.rk { x with p := rp } kk).p := A6.p
  have HYP := Lib.hid hyp
  clear hyp
  go_wp2_with (first | (refine wpList_load_row rfl 46 _ rfl (w1.heap.size) rfl _ (wc s7) (0, 0) _ qa73 Tryz.underlying46 rfl ah ?_) | (refine wpList_store_row rfl 46 _ _ rfl (gx) (wc s7) rfl rfl _ _ (by exact X6) ah ah ah ?_; rw [← hz3]; clear hz3 X6))
  go_ret
  exact ⟨_, rfl, H8, ⟨by rw [HYP.out], A8.rk, A8.l0, A8.l1, A8.l2, A8.hl, A8.rd⟩⟩) : P := h
theorem qa1b {P : Prop} (h : P := by
 obtain ⟨_, _, he, h1, h2, _⟩ := h
 injection he with _ e2 e3
 subst e3
 exact ⟨e2, Nat.le_trans h1 h2⟩) : P := h
theorem qa1c {P : Prop} (h : P := by
 refine ⟨h.1, ?_⟩
 rcases h.2 with h2 | h2
 ·exact .inl h2
 ·obtain ⟨ad, cap, he, _, _, h3⟩ := h.1
  simp only [Sl.v, Value.slice.injEq] at he
  rcases h3 with h3 | ⟨b, off, rfl, hb, _⟩
  ·exact .inl h3
  ·refine .inr fun d hd => hq _ ?_ (h2 d hd)
   have e := hd.symm.trans he.1
   simp only [Option.some.injEq] at e
   subst e
   exact hb) : P := h
theorem qa1d {P : Prop} (h : P := by
 have := E.small
 calc (n + m) * bytes ≤ 1000000 * 1024 := Nat.mul_le_mul hn this
  _ ≤ 140737488355328 := aL) : P := h
theorem qa1e {P : Prop} (h : P := by
 go_ret
 obtain ⟨y, rfl⟩ := Ap.gI h3
 refine ⟨y, rfl, ?_, HB1.out.trans ?_⟩
 ·rw [HGS.out] at h3
  simpa using h3
 ·rw [HGS.out] at hb3
  exact ⟨hb3.os, hb3.tape, hb3.output, by have := hb3.size; have := HB1.out.size; omega, fun b hb => hb3.block b (by have := HB1.out.size; omega) (fun e => by have e2 : b = w.heap.size := Option.some.inj e; omega)⟩) : P := h
theorem qa1f {P : Prop} (h : P := by
 have hne : ¬ (0 ≤ k ∧ k < (R.rs.length : Int)) := aj
 rw [if_neg hne]
 clear hne
 go_enter Tryz.func60, Tryz.ntmps60
 exact qa1g) : P := h
theorem qa1g {P : Prop} (h : P := by
 go_wp2
 go_ret
 exact ⟨rfl, rfl⟩) : P := h
theorem qa1h {P : Prop} (h : P := by
 go_wp2_with fail
 refine HF.out.mono ?_
 rintro e w2 ⟨rfl, rfl⟩
 exact qa1g) : P := h
theorem qa1i {P : Prop} (h : P := by
 rintro e w3 ⟨rfl, rfl⟩
 go_wp2_with (first | (refine wpList_store_row rfl 46 _ _ rfl w.heap.size (wc wz) rfl rfl _ _ (by exact HX0.out) ah ah ah ?_; rw [← HW2.out]) | fail)
 refine bodyPost_ret (v := wv wz) ?_ rfl ⟨rfl, HB2.out⟩
 exact results_cell_row (p := 4) (ty := 46) Tryz.results31 _ _ w.heap.size 46 _ (0, 0) _ rfl HX2.out Tryz.underlying46 rfl ah) : P := h
theorem qa1j {P : Prop} (h : P := by
 rcases hy with q | q
 ·exact .inl (blk_iff.2 (q ▸ blk_iff.1 hb))
 ·have := blk_iff.1 hb
  rw [q] at this
  injection this with this
  exact .inr this.symm) : P := h
theorem qa1k {P : Prop} (h : P := by
 have HF := Lib.hid (HE.out.trans (decide_eq_true hv))
 exact qa40) : P := h
theorem qa1l {P : Prop} (h : P := by
 have HF := Lib.hid (HE.out.trans (decide_eq_false hv))
 exact qa40) : P := h
theorem qa1m {P : Prop} (h : P := by
 have hj : j < 33 := (List.getElem?_eq_some_iff.1 hv).1
 rw [h.cells, Nat.add_assoc, jw rs i (2 + j) hi aj, show 2 + j = j + 2 by omega]
 show ((wc rs[i].s).toList ++ [rs[i].td.v])[j]? = _
 rw [List.getElem?_append_left hj]
 exact hv) : P := h
theorem qa1n {P : Prop} (h : P := by
 rw [HR0.out]
 exact (lies_agr (HH.out.ls.wk i hi hi').st (P5.fr.agr (fun b q => q.2))).mono (fun b _ q => .inl q)) : P := h
theorem qa1o {P : Prop} (h : P := by
 have e1d : e1.rd = aG := by rw [HE1.out, HE0.out]; rfl
 exact ⟨rfl, by rw [e1d]; exact ⟨Reads.nil _ _, .inl rfl⟩⟩) : P := h
theorem qa1p {P : Prop} (h : P := by
 refine (jS s2 (b := true) qa60 _).mono ?_
 rintro e zf ⟨rfl, hbf⟩
 have PF := HP7.out.keep hbf
 have HF0 := hFinish PF.ha i hi4 hi4' (by have := HES4.out; omega) (by rw [HED4.out]; exact ht) (by rw [HED4.out]; show x2.rd.length ≤ 1000; rw [HX2d.out]; exact hrd)
 rw [← HQ.out] at HF0
 have HF := Lib.hid HF0
 clear HF0
 have HPF := Lib.hid PF
 clear PF
 go_wp2_with fail
 refine HF.out.mono ?_
 rintro e zg ⟨rfl, RF, PG⟩
 have HPG := Lib.hid (HPF.out.trans PG)
 clear PG
 go_wp2
 go_end0
 refine ⟨rfl, RF, ?_⟩
 have := HPG.out
 rw [HSF.out, if_pos h0, HH4.out]
 rw [HED4.out, HET4.out] at this
 exact this) : P := h
theorem qa1q {P : Prop} (h : P := by
 refine (jS s2 (b := false) qa60 _).mono ?_
 rintro e zf ⟨rfl, hbf⟩
 have PF := HP7.out.keep hbf
 have HPF := Lib.hid PF
 clear PF
 go_wp2
 go_end0
 refine ⟨rfl, R4, ?_⟩
 rw [HSF.out, if_neg h0, HH4.out]
 exact HPF.out) : P := h
theorem qa1r {P : Prop} (h : P := by
 rw [e]
 clear e
 exact qa41) : P := h
theorem qa1s {P : Prop} (h : P := by simp [Instr.mapUpdate, run_underlying ht, MapKept.run_getObj_map hb, K.check w false k, h1, MapKept.run_setObj_map _ hb, Result.andThen, setBlock]) : P := h
theorem qa1t {P : Prop} (h : P := by
 go_wp2
 go_ret
 exact ⟨rfl, Below.refl _ _⟩) : P := h
theorem qa1u {P : Prop} (h : P := by
 go_enter Tryz.func227, Tryz.ntmps227
 exact qa1g) : P := h
theorem qa1v {P : Prop} (h : P := by
 rintro e w1 ⟨rfl, M1, t1⟩
 go_wp2
 go_ret
 exact ⟨rfl, M1, t1⟩) : P := h
theorem qa1w {P : Prop} (h : P := by
 try simp only [Act.put, jP]
 refine jR [6, 8] ?_
 refine jC rfl (fun K hK => ?_) (jC rfl (fun K hK => ?_) jN)
 go_simp
 refine hK.out _ _ hHeld (fun hHeld => ?_)
 clear hK K
 try simp only [Act.put, jP]
 refine jR [8] ?_
 refine jC rfl (fun K hK => ?_) jN
 have B8 := BX.setRow (shC nm ba bn bs bh)
 have hb8 := below_setRow hHeld gb7 (shC nm ba bn bs bh)
 refine dh rfl 167 (.tmp 3) (.tmp 10) rfl gb (shC nm ba bn bs bh) rfl rfl 167 (#[.string ⟨#[]⟩, .bool false, .bool false, .bool false, .bool false]) (by exact BX) ah rfl ah ?_
 obtain ⟨z8, hz8⟩ : ∃ u, u = za.setRow gb (shC nm ba bn bs bh) := ⟨_, rfl⟩
 rw [← hz8] at B8 hb8 ⊢
 clear hz8 BX
 refine hK.out _ _ hb8 (fun hHeld => ?_)
 clear hK K hb8
 rotate_left
 have B8 := BX.setRow (shC nm ba bn bs bh)
 have hb8 := below_setRow hHeld gb7 (shC nm ba bn bs bh)
 refine dh rfl 167 (.tmp 3) (.tmp 10) rfl gb (shC nm ba bn bs bh) rfl rfl 167 (#[.string ⟨#[]⟩, .bool false, .bool false, .bool false, .bool false]) (by exact BX) ah rfl ah ?_
 obtain ⟨z8, hz8⟩ : ∃ u, u = za.setRow gb (shC nm ba bn bs bh) := ⟨_, rfl⟩
 rw [← hz8] at B8 hb8 ⊢
 clear hz8 BX
 refine hK.out _ _ hb8 (fun hHeld => ?_)
 clear hK K hb8
 try simp only [Act.put, jP]
 refine jT 6 (.bool bk) rfl hHeld ?_
 rotate_left
 all_goals
  try simp only [Act.put, jP]
  refine jT 9 (.bool bk) rfl hHeld ?_
  try simp only [Act.put, jP]
  refine wpAnyH_done ah ?_ _
  simp only [Exit.then]
  apply_assumption
  go_meet
  have K8 := K0.keep hHeld
  have hb9 := hb0.trans (hHeld.mono hb0.size)
  exact ⟨gb, rfl, rfl, B8, K8, hb9⟩) : P := h
theorem qa1x {P : Prop} (h : P := by
 have hb := p2_lt (j + 1) aj
 have hs := Lib.hid (p2_succ j)
 rw [p2_succ] at hb
 go_wp2
 go_round
 case rel => exact ⟨j + 1, by omega, by go_num, by rw [hs.out]⟩
 case measure => simp [intOf]; omega) : P := h
theorem qa1y {P : Prop} (h : P := by
 go_wp2
 refine aN ah ah ?_
 have hg := @cK
 repeat (go_big_quiet_step (exact grown_of (HS.out _)))
 refine wpQuiet_nil ?_
 rintro w2 ⟨⟨_, hb2⟩, rfl⟩
 clear hg
 go_wp2
 go_ret
 exact ⟨rfl, ((Below.refl _ _).alloc (Nat.le_refl _) _).trans (hb2.mono aF)⟩) : P := h
theorem qa1z {P : Prop} (h : P := by
 go_enter Tryz.func88, Tryz.ntmps88
 go_wp2_with (go_at_call 112; refine (valid c h _).mono ?_; rintro e w1 ⟨rfl, hb1⟩)
 go_ret
 exact ⟨gB HK.out.symm, ((Below.refl _ _).alloc (Nat.le_refl _) _).trans (hb1.mono aF)⟩) : P := h
theorem qa20 {P : Prop} (h : P := by
 go_wp2_with (go_at_call 112; refine (valid c h _).mono ?_; rintro e w1 ⟨rfl, hb1⟩)
 go_ret
 exact qa21) : P := h
theorem qa21 {P : Prop} (h : P := by exact ⟨cu HK.out.symm, ((Below.refl _ _).alloc (Nat.le_refl _) _).trans (hb1.mono aF)⟩) : P := h
theorem qa22 {P : Prop} (h : P := by exact ⟨cu HK.out.symm, (((Below.refl _ _).alloc (Nat.le_refl _) _).trans (hb1.mono aF)).trans (hb2.mono qa4q)⟩) : P := h
theorem qa23 {P : Prop} (h : P := by
 go_wp2
 refine aN ah ah ?_
 have hg := @cK
 repeat (go_big_quiet_step (first | exact grown_of (total c h _) | exact grown_of (has c h _ _ _)))
 refine wpQuiet_nil ?_
 rintro w2 ⟨⟨_, hb2⟩, rfl⟩
 clear hg
 exact qa47) : P := h
theorem qa24 {P : Prop} (h : P := by
 go_enter Tryz.func178, Tryz.ntmps178
 exact qa23) : P := h
theorem qa25 {P : Prop} (h : P := by
 obtain ⟨ad, cap, he, _, _, h3⟩ := h
 simp only [Sl.v, Value.slice.injEq] at he
 rcases h3 with rfl | ⟨b, off, rfl, hb, hc⟩
 ·simp at hi
 ·exact ⟨b, off, he.1, hb, hc i hi⟩) : P := h
theorem qa26 {P : Prop} (h : P := by
 go_wp2
 go_ret
 exact ⟨_, rfl, Bk.new _ _ _, Nat.le_refl _, (Below.refl _ _).alloc (Nat.le_refl _) _⟩) : P := h
theorem qa27 {P : Prop} (h : P := by
 go_simp
 refine (HR u0).mono ?_
 rintro e u1 ⟨b, L9, sc, gc, n, rfl, MM, hlk, hSQ, hGQ, hNP, hn1, hb⟩
 have hsb := hb.size
 have dH := hHeld.trans (hb.mono hHeld.size)
 refine hK.out _ _ dH (fun hHeld => ?_)
 clear hK K dH
 try simp only [Act.put, jP]
 refine jR [5, 9] ?_
 refine jC rfl (fun K hK => ?_) (jC rfl (fun K hK => ?_) (jN))
 have hlk2 := look_run MM hlk
 go_simp
 refine hK.out _ _ hHeld (fun hHeld => ?_)
 clear hK K hlk2
 try simp only [Act.put, jP]
 refine jT 6 (.tuple #[.agg #[.func (.func sf) #[] sc, .func (.func gf) #[] gc, n], .bool true]) rfl hHeld ?_
 try simp only [Act.put, jP]
 refine jT 7 (.agg #[.func (.func sf) #[] sc, .func (.func gf) #[] gc, n]) rfl hHeld ?_
 try simp only [Act.put, jP]
 refine jT 8 (.bool true) rfl hHeld ?_
 try simp only [Act.put, jP]
 refine jR [9] ?_
 refine jC rfl (fun K hK => ?_) (jN)
 go_simp
 have hba : Below u1.heap.size u1 (u1.alloc (.cells #[.nilFunc, .nilFunc, .nilFunc] 144)) := (Below.refl _ _).alloc (Nat.le_refl _) _
 have ZR := Bk.new u1 #[.nilFunc, .nilFunc, .nilFunc] 144
 have hsa : u1.heap.size + 1 = (u1.alloc (.cells #[.nilFunc, .nilFunc, .nilFunc] 144)).heap.size := aF
 obtain ⟨gr, hgr⟩ : ∃ u, u = u1.heap.size := ⟨_, rfl⟩
 rw [← hgr] at ZR ⊢
 have hgr1 : gr ≤ u1.heap.size := aj
 have hgr2 : u1.heap.size ≤ gr := aj
 clear hgr
 generalize u1.alloc (.cells #[.nilFunc, .nilFunc, .nilFunc] 144) = u2 at *
 have dH := hHeld.trans (hba.mono hHeld.size)
 refine hK.out _ _ dH (fun hHeld => ?_)
 clear hK K dH
 rotate_left
 go_simp
 have hba : Below u1.heap.size u1 (u1.alloc (.cells #[.nilFunc, .nilFunc, .nilFunc] 144)) := (Below.refl _ _).alloc (Nat.le_refl _) _
 have ZR := Bk.new u1 #[.nilFunc, .nilFunc, .nilFunc] 144
 have hsa : u1.heap.size + 1 = (u1.alloc (.cells #[.nilFunc, .nilFunc, .nilFunc] 144)).heap.size := aF
 obtain ⟨gr, hgr⟩ : ∃ u, u = u1.heap.size := ⟨_, rfl⟩
 rw [← hgr] at ZR ⊢
 have hgr1 : gr ≤ u1.heap.size := aj
 have hgr2 : u1.heap.size ≤ gr := aj
 clear hgr
 generalize u1.alloc (.cells #[.nilFunc, .nilFunc, .nilFunc] 144) = u2 at *
 have dH := hHeld.trans (hba.mono hHeld.size)
 refine hK.out _ _ dH (fun hHeld => ?_)
 clear hK K dH
 try simp only [Act.put, jP]
 have MM := aB MM hba
 refine jR [5] ?_
 refine jC rfl (fun K hK => ?_) (jN)
 have hlk2 := look_run MM hlk
 go_simp
 refine hK.out _ _ hHeld (fun hHeld => ?_)
 clear hK K hlk2
 try simp only [Act.put, jP]
 refine jT 6 (.tuple #[.agg #[.func (.func sf) #[] sc, .func (.func gf) #[] gc, n], .bool true]) rfl hHeld ?_
 try simp only [Act.put, jP]
 refine jT 7 (.agg #[.func (.func sf) #[] sc, .func (.func gf) #[] gc, n]) rfl hHeld ?_
 try simp only [Act.put, jP]
 refine jT 8 (.bool true) rfl hHeld ?_
 rotate_left
 all_goals
  try simp only [Act.put, jP]
  have hbz : Below u1.heap.size u1 (u2.setRow gr #[.func (.func sf) #[] sc, .func (.func gf) #[] gc, n]) := below_setRow hba aj _
  refine jR [10] ?_
  refine jC rfl (fun K hK => ?_) (jN)
  refine dh rfl 144 _ _ rfl gr #[.func (.func sf) #[] sc, .func (.func gf) #[] gc, n] rfl rfl _ _ (by exact ZR) ah ah (rul_one hn1) ?_
  refine hK.out _ _ (below_setRow hHeld aj _) (fun gJ => ?_)
  clear hK K hHeld
  have hHeld := gJ
  simp only [Act.put, List.getElem_toArray, List.getElem_cons_succ, List.getElem_cons_zero]
  refine jT 11 (.bool true) rfl hHeld ?_
  try simp only [Act.put, jP]
  refine wpAnyH_done ah ?_ _
  simp only [Exit.then]
  apply_assumption
  go_meet
  case rel => exact ⟨gr, u0.heap.size, sc, gc, n, rfl, rfl, ZR.setRow _, by omega, by omega, (cS.keep hSQ hbz), (cG.keep hGQ hbz), (cN hNP hbz), gJ⟩) : P := h
theorem qa28 {P : Prop} (h : P := by
 go_simp
 have hba : Below u0.heap.size u0 (u0.alloc (.cells #[.nilFunc, .nilFunc, .nilFunc] 144)) := (Below.refl _ _).alloc (Nat.le_refl _) _
 have ZR := Bk.new u0 #[.nilFunc, .nilFunc, .nilFunc] 144
 have hsa : u0.heap.size + 1 = (u0.alloc (.cells #[.nilFunc, .nilFunc, .nilFunc] 144)).heap.size := aF
 obtain ⟨gr, hgr⟩ : ∃ u, u = u0.heap.size := ⟨_, rfl⟩
 rw [← hgr] at ZR ⊢
 have hgr1 : gr ≤ u0.heap.size := aj
 have hgr2 : u0.heap.size ≤ gr := aj
 clear hgr
 generalize u0.alloc (.cells #[.nilFunc, .nilFunc, .nilFunc] 144) = u1 at *
 have dH := hHeld.trans (hba.mono hHeld.size)
 refine hK.out _ _ dH (fun hHeld => ?_)
 clear hK K dH
 try simp only [Act.put, jP]
 refine jR [2] ?_
 refine jC rfl (fun K hK => ?_) (jN)
 go_simp
 refine (HR u1).mono ?_
 rintro e u2 ⟨b, L9, sc, gc, n, rfl, MM, hlk, hSQ, hGQ, hNP, hn1, hb⟩
 have hsb := hb.size
 have dH := hHeld.trans (hb.mono hHeld.size)
 refine hK.out _ _ dH (fun hHeld => ?_)
 clear hK K dH
 try simp only [Act.put, jP]
 have ZR := ZR.keep hb
 refine jR [5] ?_
 refine jC rfl (fun K hK => ?_) (jN)
 have hlk2 := look_run MM hlk
 go_simp
 refine hK.out _ _ hHeld (fun hHeld => ?_)
 clear hK K hlk2
 try simp only [Act.put, jP]
 refine jT 6 (.tuple #[.agg #[.func (.func sf) #[] sc, .func (.func gf) #[] gc, n], .bool true]) rfl hHeld ?_
 try simp only [Act.put, jP]
 refine jT 7 (.agg #[.func (.func sf) #[] sc, .func (.func gf) #[] gc, n]) rfl hHeld ?_
 try simp only [Act.put, jP]
 refine jT 8 (.bool true) rfl hHeld ?_
 try simp only [Act.put, jP]
 refine jR [10] ?_
 refine jC rfl (fun K hK => ?_) (jN)
 refine dh rfl 144 _ _ rfl gr #[.func (.func sf) #[] sc, .func (.func gf) #[] gc, n] rfl rfl _ _ (by exact ZR) ah ah (rul_one hn1) ?_
 refine hK.out _ _ (below_setRow hHeld aj _) (fun gJ => ?_)
 clear hK K hHeld
 have hHeld := gJ
 simp only [Act.put, List.getElem_toArray, List.getElem_cons_succ, List.getElem_cons_zero]
 refine jT 11 (.bool true) rfl hHeld ?_
 try simp only [Act.put, jP]
 refine wpAnyH_done ah ?_ _
 simp only [Exit.then]
 apply_assumption
 go_meet
 case rel => exact ⟨gr, u1.heap.size, sc, gc, n, rfl, rfl, ZR.setRow _, by omega, by omega, (cS.row hSQ aj _), (cG.row hGQ aj _), (cR hNP aj _), gJ⟩) : P := h
theorem qa29 {P : Prop} (h : P := by
 go_enter Tryz.func220, Tryz.ntmps220
 exact qa42) : P := h
theorem qa2a {P : Prop} (h : P := by
 clear hs he ht
 exact qa29) : P := h
theorem qa2b {P : Prop} (h : P := by
 clear he
 have f0 : ∀ s : Wk, (wc s)[0]? = some (.int .i64 s.p.ln) := fun _ => rfl
 have t30 : (s.p.ln == 30) = true := jB hl
 exact qa2c) : P := h
theorem qa2c {P : Prop} (h : P := by
 have x0 := h.X.cells
 clear hl
 go_enter Tryz.func164, Tryz.ntmps164
 exact qa48) : P := h
theorem qa2d {P : Prop} (h : P := by
 clear hj
 have x0 := h.X.cells
 go_enter Tryz.func192, Tryz.ntmps192
 go_wp2
 have hS0 : ∃ a' v', MX B w0 g gl cap gx c a' L { s with p := { s.p with v := v' } } w.drew := ⟨a, s.p.v, h.keep (Below.drew (Below.refl _ _))⟩
 refine wp_region_held_drew (S := fun w' => ∃ a' v', MX B w0 g gl cap gx c a' L { s with p := { s.p with v := v' } } w') ah hS0 (fun hHeld => ?_)
 clear h hS0 x0
 generalize w.drew = vv at *
 refine jT 0 (.pointer (some ⟨gx, 0, none⟩)) rfl hHeld ?_
 try simp only [Act.put, jP]
 refine jT 1 (.pointer (some ⟨g, 0, none⟩)) rfl hHeld ?_
 try simp only [Act.put, jP]
 refine jT 2 (.pointer (some ⟨g, 0, none⟩)) rfl hHeld ?_
 try simp only [Act.put, jP]
 refine jT 3 (.pointer (some ⟨g, 0, none⟩)) rfl hHeld ?_
 try simp only [Act.put, jP]
 refine jT 4 (.pointer (some ⟨g, 0, none⟩)) rfl hHeld ?_
 try simp only [Act.put, jP]
 refine jY 5 (cv c) rfl (Or.inl ⟨by rfl, fun w' hSw => by obtain ⟨a', v', HS⟩ := hSw; have xx := HS.M.B.cells; go_simp⟩) hHeld ?_
 try simp only [Act.put, jP]
 refine jT 6 (.pointer (some ⟨gx, 0, none⟩)) rfl hHeld ?_
 try simp only [Act.put, jP]
 refine jT 7 (.pointer (some ⟨gx, 0, none⟩)) rfl hHeld ?_
 try simp only [Act.put, jP]
 refine jT 8 (.pointer (some ⟨gx, 28, none⟩)) rfl hHeld ?_
 try simp only [Act.put, jP]
 refine jY 9 (.int .i64 s.p.j) rfl (Or.inl ⟨by rfl, fun w' hSw => by obtain ⟨a', v', HS⟩ := hSw; have xx := HS.X.cells; go_simp⟩) hHeld ?_
 try simp only [Act.put, jP]
 refine jR [10] ?_
 refine jC rfl (fun K hK => ?_) jN
 go_simp
 refine (HAN.out _).mono ?_
 rintro en z1 ⟨rfl, hb⟩
 obtain ⟨a1, v1, H1⟩ := hHeld
 refine hK.out _ _ ⟨a1, v1, H1.keep hb⟩ (fun hHeld => ?_)
 clear hK K H1 hb
 try simp only [Act.put, jP]
 refine jR [11] ?_
 refine jC rfl (fun K hK => ?_) jN
 go_simp
 obtain ⟨a1, v1, H1⟩ := hHeld
 refine (bF H1.M hm _).mono ?_
 rintro en z2 ⟨rfl, M2, T2⟩
 have H2 := H1.mem M2 T2
 refine hK.out _ _ ⟨_, v1, H2⟩ (fun hHeld => ?_)
 clear hK K H1 M2 T2
 obtain ⟨lj, hlj⟩ : ∃ v, v = ldV L (aS c s.p.j) := ⟨_, rfl⟩
 simp only [← hlj]
 rw [← hlj] at hv HR
 have HV := Lib.hid hlj
 clear hlj
 try simp only [Act.put, jP]
 refine jT 12 (.pointer (some ⟨gx, 0, none⟩)) rfl hHeld ?_
 try simp only [Act.put, jP]
 refine jT 13 (.pointer (some ⟨gx, 25, none⟩)) rfl hHeld ?_
 try simp only [Act.put, jP]
 refine jR [14] ?_
 refine jC rfl (fun K hK => ?_) jN
 have x2 := H2.X.cells
 have z2f := H2.X.frozen
 have e25 : (z2.cell? ⟨gx, 25, none⟩).isSome = true := qa5z
 have H3 := H2.set (s' := { s with p := { s.p with v := lj } }) 25 (.int .u64 lj) rfl
 go_simp
 refine hK.out _ _ ⟨_, lj, H3⟩ (fun hHeld => ?_)
 clear hK K H2 x2 z2f e25
 try simp only [Act.put, jP]
 refine wpAnyH_done ah ?_ _
 clear hHeld
 obtain ⟨z3, hz3⟩ : ∃ u, u = z2.setCell ⟨gx, 25, none⟩ (.int .u64 lj) := ⟨_, rfl⟩
 rw [← hz3] at H3 ⊢
 clear hz3
 have x3 := H3.X.cells
 have l3 := H3.lt
 have HRD := Lib.hid (fun w => HR.out ▸ ready lj s.p.ep hv.1 hv.2 HEP.out w)
 clear hv
 go_wp2
 refine aN ah ah ?_
 have hg := @cK
 repeat (go_big_quiet_step (exact grown_of (HRD.out _)))
 refine wpQuiet_nil ?_
 rintro w5 ⟨⟨_, hb5⟩, rfl⟩
 clear hg
 have H5 := H3.keep hb5
 clear x3 l3 H3 hb5
 have H6 := H5.set (s' := { s with p := { s.p with v := lj, j := wrap64 (s.p.j + 1) } }) 28 (.int .i64 (wrap64 (s.p.j + 1))) rfl
 have xw5 := H5.X.cells
 have zw5 := H5.X.frozen
 have ew5_28 : (w5.cell? ⟨gx, 28, none⟩).isSome = true := by rw [xw5, f28]; rfl
 go_wp2
 generalize w5.setCell ⟨gx, 28, none⟩ (.int .i64 (wrap64 (s.p.j + 1))) = w6 at *
 clear xw5 zw5 ew5_28 H5
 have x6 := H6.X.cells
 have m6 := H6.M.B.cells
 have lx6 := H6.lt
 have lg6 := H6.M.lt.1
 refine aN ah ah ?_
 have hg := @cK
 repeat (go_big_quiet_step (fail))
 refine wpQuiet_nil ?_
 rintro w7 ⟨⟨_, hb7⟩, rfl⟩
 clear hg
 have H7 := H6.keep hb7
 clear x6 m6 lx6 lg6 H6 hb7
 go_wp2
 go_ret
 have e1 := HV.out
 subst e1
 exact ⟨rfl, H7⟩) : P := h
theorem qa2e {P : Prop} (h : P := by
 clear hr hj
 exact qa49) : P := h
theorem qa2f {P : Prop} (h : P := by
 have x0 := h.X.cells
 clear hl
 go_enter Tryz.func164, Tryz.ntmps164
 go_wp2_with fail
 refine HC.out.mono ?_
 rintro en w1 ⟨rfl, H1⟩
 rw [HW.out] at H1
 go_wp2
 go_ret2
 exact ⟨rfl, H1⟩) : P := h
theorem qa2g {P : Prop} (h : P := by
 clear hs
 have f0 : ∀ s : Wk, (wc s)[0]? = some (.int .i64 s.p.ln) := fun _ => rfl
 have f18 : ∀ s : Wk, (wc s)[18]? = some (.int .i64 s.p.b) := fun _ => rfl
 have t30 : (s.p.ln == 30) = false := jB hl
 have t31 : (s.p.ln == 31) = false := jB hl
 have t32 : (s.p.ln == 32) = false := jB hl
 have t33 : (s.p.ln == 33) = false := jB hl
 have t34 : (s.p.ln == 34) = false := jB hl
 have t35 : (s.p.ln == 35) = true := jB hl
 exact qa2c) : P := h
theorem qa2h {P : Prop} (h : P := by
 clear hs
 have f0 : ∀ s : Wk, (wc s)[0]? = some (.int .i64 s.p.ln) := fun _ => rfl
 have f19 : ∀ s : Wk, (wc s)[19]? = some (.int .i64 s.p.k) := fun _ => rfl
 have t30 : (s.p.ln == 30) = false := jB hl
 have t31 : (s.p.ln == 31) = false := jB hl
 have t32 : (s.p.ln == 32) = false := jB hl
 have t33 : (s.p.ln == 33) = false := jB hl
 have t34 : (s.p.ln == 34) = false := jB hl
 have t35 : (s.p.ln == 35) = false := jB hl
 have t36 : (s.p.ln == 36) = false := jB hl
 have t37 : (s.p.ln == 37) = false := jB hl
 have t39 : (s.p.ln == 39) = true := jB hl
 exact qa2c) : P := h
theorem qa2i {P : Prop} (h : P := by
 go_wp2
 go_ret2
 have e1 := HV.out
 subst e1
 exact ⟨rfl, H6⟩) : P := h
theorem qa2j {P : Prop} (h : P := by
 rw [← hv0] at hv HZ
 simp only [← hv0]
 have HV := Lib.hid hv0
 clear hv0 x2 z2 M3 T3 H2 Z2
 have H4 := H3.set (s' := { s with p := { s.p with v := v0 } }) 25 (.int .u64 v0) rfl
 have xw3 := H3.X.cells
 have zw3 := H3.X.frozen
 have ew3 : (w3.cell? ⟨gx, 25, none⟩).isSome = true := qa5d
 go_wp2_with fail
 generalize w3.setCell ⟨gx, 25, none⟩ (.int .u64 v0) = w4 at *
 clear xw3 zw3 ew3 H3
 refine (skLow v0 hv.1 hv.2 _).mono ?_
 rintro en w5 ⟨rfl, rfl⟩
 obtain ⟨u0, hu0⟩ : ∃ v, v = bM v0 := ⟨_, rfl⟩
 rw [← hu0] at HZ
 simp only [← hu0]
 have HU := Lib.hid hu0
 clear hu0
 have H5 := H4.set (s' := { s with p := { s.p with v := v0, h := u0 } }) 23 (.int .u64 u0) rfl
 have xw4 := H4.X.cells
 have zw4 := H4.X.frozen
 have ew4 : (w4.cell? ⟨gx, 23, none⟩).isSome = true := by rw [xw4, f23]; rfl
 have tz : (u0 == 0) = true := qa5e
 go_wp2
 go_ret2
 have e1 := HV.out
 have e2 := HU.out
 subst e1
 subst e2
 exact ⟨rfl, H5⟩) : P := h
theorem qa2k {P : Prop} (h : P := by
 have xw4 := H4.X.cells
 have zw4 := H4.X.frozen
 have ew4 : (w4.cell? ⟨gx, 0, none⟩).isSome = true := by rw [xw4, f0]; rfl
 go_wp2
 go_ret2
 have e1 := HV.out
 subst e1
 exact ⟨rfl, H5⟩) : P := h
theorem qa2l {P : Prop} (h : P := by
 refine (HUN.out _).mono ?_
 rintro en w3 ⟨rfl, rfl⟩
 rw [HLO.out]
 go_wp2_with fail
 exact qa2o) : P := h
theorem qa2m {P : Prop} (h : P := by
 refine (HUN.out _).mono ?_
 rintro en w3 ⟨rfl, rfl⟩
 rw [HLO.out]
 go_wp2_with fail
 exact qa2p) : P := h
theorem qa2n {P : Prop} (h : P := by
 have xw4 := H4.X.cells
 have zw4 := H4.X.frozen
 have ew4 : (w4.cell? ⟨gx, 0, none⟩).isSome = true := by rw [xw4, f0]; rfl
 go_wp2
 go_ret2
 exact ⟨rfl, H5⟩) : P := h
theorem qa2o {P : Prop} (h : P := by
 refine (HTP.out _ H2).mono ?_
 rintro en w4 ⟨rfl, H4⟩
 rw [HW.out] at H4
 clear x2 z2 H2 Z2
 go_wp2
 go_ret2
 exact ⟨rfl, H4⟩) : P := h
theorem qa2p {P : Prop} (h : P := by
 refine (HTP.out _ H2).mono ?_
 rintro en w4 ⟨rfl, H4⟩
 clear x2 z2 H2 Z2
 go_wp2
 go_ret2
 exact ⟨rfl, H4⟩) : P := h
theorem qa2q {P : Prop} (h : P := by
 have HEP := Lib.hid ep
 clear ep
 go_wp2_with (first | ((with_reducible refine au rfl rfl ?_)) | (refine wpList_store_row rfl 46 _ _ rfl (w1.heap.size) (wc s2) rfl rfl _ _ qa5n ah ah ah ?_; rw [← hw3]; clear hw3 Y1) | (refine wpList_load_row rfl 46 _ rfl (w1.heap.size) rfl _ (wc s2) (0, 0) _ qa5o Tryz.underlying46 rfl ah ?_) | (refine wpList_store_row rfl 46 _ _ rfl (gx) (wc s2) rfl rfl _ _ qa5p ah ah ah ?_; rw [← hw5]; clear hw5 X3))
 go_ret
 exact ⟨_, rfl, H9, ⟨by rw [HEP.out], A9.rk, A9.l0, A9.l1, A9.l2, A9.hl, A9.rd⟩⟩) : P := h
theorem qa2r {P : Prop} (h : P := by
 have HG := Lib.hid (takeAgain H1 x hx' A1 (by have := T1.size; omega) hg)
 clear ep T1
 go_wp2_with fail
 refine HG.out.mono ?_
 rintro e w6 ⟨s6, rfl, H6, A6'⟩
 go_wp2
 go_ret
 exact ⟨s6, rfl, H6, A6'⟩) : P := h
theorem qa2s {P : Prop} (h : P := by exact .inr ⟨b, off, e2, by simpa using hlt, fun i hi => (World.cell?_of_block (heap_setCell_other w ⟨g, j, none⟩ b z hne)).trans (hc i hi)⟩) : P := h
theorem qa2t {P : Prop} (h : P := by
 subst hl
 have HG := Lib.hid (takePop h hm hL hf x hx A hp hn hg hv)
 have HOK := Lib.hid (tkPop_ok c a L x)
 exact qa2v) : P := h
theorem qa2u {P : Prop} (h : P := by
 subst hl
 have HG := Lib.hid (takePark h hm hL hf x hx A hp hn hg)
 have HOK := Lib.hid (tkPark_ok c a L x)
 exact qa2v) : P := h
theorem qa2v {P : Prop} (h : P := by
 clear h A
 go_enter Tryz.func168, Tryz.ntmps168
 exact qa4a) : P := h
theorem qa2w {P : Prop} (h : P := by exact Rw.results_cell_slot2 (p := 4) (q := 5) (r := 6) (ty := 46) Tryz.results145 _ _ (w.heap.size + 1) 46 _ (0, 0) _ rfl ZF Tryz.underlying46 rfl ah) : P := h
theorem qa2x {P : Prop} (h : P := by
 have hlt2 : k < l2.length := by have := HL.out; omega
 have q1 := H1.out k hlt
 have q2 := H2.out k hlt2
 by_cases he : l1[k] = l2[k]
 ·have hb : (l1[k] != l2[k]) = false := by simp [he]
  have HE := Lib.hid he
  clear he
  go_wp2
  go_quiet (fail)
  go_wp2
  go_roundw
  case rel => exact ⟨k + 1, by omega, by go_num, fun j h h1 => by rcases Nat.lt_succ_iff_lt_or_eq.1 h with h | rfl; exact HA.out j h h1; exact HE.out, _, rfl⟩
  case measure => simp [intOf]; omega
 ·have hb : (l1[k] != l2[k]) = true := by simp [he]
  have HE : RowKit.Hid (decide (l1 = l2) = false) := Lib.hid (decide_eq_false (fun e => he (by subst e; rfl)))
  clear he
  go_wp2
  go_quiet (fail)
  go_wp2
  go_ret
  exact ⟨gB HE.out.symm, gro_drewN (gro_drewN (Below.refl _ _))⟩) : P := h
theorem qa2y {P : Prop} (h : P := by
 obtain rfl : k = l1.length := aj
 have HE : RowKit.Hid (decide (l1 = l2) = true) := Lib.hid (decide_eq_true (eq_upto HL.out (fun i h => HA.out i h h)))
 go_wp2
 go_ret
 exact ⟨gB HE.out.symm, gro_drewN (Below.refl _ _)⟩) : P := h
theorem qa2z {P : Prop} (h : P := by show ¬ (0 : Int) = 2; decide) : P := h
theorem qa30 {P : Prop} (h : P := by
 intro w
 refine (fG w).mono ?_
 rintro e w' ⟨b, rfl, ⟨t1, t2, s1, e1, e2, k1, f50, x5, n1, x7, y5, r43, r45, f61, t0, MM, Bt1, Bt2, Bs1, Be1, Be2, Bk1, Bf50, Bx5, Bn1, Bx7, By5, Br43, Br45, Bf61, Bt0⟩, hb, hbl⟩
 exact ⟨b, _, #[], #[], .nilFunc, rfl, MM, by kernel_rfl, rfl, rfl, trivial, rfl, hbl⟩) : P := h
theorem qa31 {P : Prop} (h : P := by
 intro P B1 w1 s1 sc hP hG M1 A1 hcp hsc
 obtain rfl : sc = #[] := hsc
 exact (epochStepAny M1 hf hm hL s1 x (hx.mono aj) A1.lies hp wk).mono fun e w' q => gsp_of hP (gs_of q)) : P := h
theorem qa32 {P : Prop} (h : P := by
 intro P B1 w1 s1 gc hP A1 hgc
 obtain rfl : gc = #[] := hgc
 exact fInside c hP A1 ((gH hx _).mono aj)) : P := h
theorem qa33 {P : Prop} (h : P := by
 intro h2
 exact absurd h2 (by simp only [bE, bX, Res.fin, hln]; simp [ep1, ep2, ep3, ep90]; try (split <;> simp))) : P := h
theorem qa34 {P : Prop} (h : P := by
 intro w
 refine (fG w).mono ?_
 rintro e w' ⟨b, rfl, ⟨t1, t2, s1, e1, e2, k1, f50, x5, n1, x7, y5, r43, r45, f61, t0, MM, Bt1, Bt2, Bs1, Be1, Be2, Bk1, Bf50, Bx5, Bn1, Bx7, By5, Br43, Br45, Bf61, Bt0⟩, hb, hbl⟩
 exact ⟨b, _, #[], #[.pointer (some ⟨t1, 0, none⟩)], (aO 160 t2), rfl, MM, by kernel_rfl, rfl, ⟨t1, rfl, Bt1⟩, ⟨_, rfl, ⟨t2, rfl, Bt2⟩⟩, rfl, hbl⟩) : P := h
theorem qa35 {P : Prop} (h : P := by
 intro P B1 w1 s1 gc hP A1 hgc
 obtain ⟨a9, rfl, hbx⟩ := hgc
 exact fToW c hP A1 hbx.bk) : P := h
theorem qa36 {P : Prop} (h : P := by
 intro h2
 refine ⟨160, (dw (.int .i64 73) 3), Tryz.call160, aK _ _, fun h => h, Lib.hid ?_⟩
 intro P B1 w1 s1 gc hP A1 hgc
 obtain ⟨a9, rfl, hbx⟩ := hgc
 exact fToW c hP A1 hbx.bk) : P := h
theorem qa37 {P : Prop} (h : P := by
 intro w
 refine (fG w).mono ?_
 rintro e w' ⟨b, rfl, ⟨t1, t2, s1, e1, e2, k1, f50, x5, n1, x7, y5, r43, r45, f61, t0, MM, Bt1, Bt2, Bs1, Be1, Be2, Bk1, Bf50, Bx5, Bn1, Bx7, By5, Br43, Br45, Bf61, Bt0⟩, hb, hbl⟩
 exact ⟨b, _, #[.pointer (some ⟨s1, 0, none⟩)], #[.pointer (some ⟨e1, 0, none⟩)], (aO 165 e2), rfl, MM, by kernel_rfl, ⟨s1, rfl, Bs1⟩, ⟨e1, rfl, Be1⟩, ⟨_, rfl, ⟨e2, rfl, Be2⟩⟩, rfl, hbl⟩) : P := h
theorem qa38 {P : Prop} (h : P := by
 intro P B1 w1 s1 sc hP hG M1 A1 hcp hsc
 obtain ⟨a9, rfl, hbx⟩ := hsc
 exact fAlone M1 s1 x hP A1.lies Tryz.call140 hbx.bk (Lib.hid fun w2 M2 h2 => (gP M2 hf hm hL s1 x (hx.mono aj) h2 hp).mono fun e w' q => gs_of q) wk) : P := h
theorem qa39 {P : Prop} (h : P := by
 intro h2
 refine ⟨165, (dw (.int .i64 9) 32), Tryz.call165, aK _ _, fun h => h, Lib.hid ?_⟩
 intro P B1 w1 s1 gc hP A1 hgc
 obtain ⟨a9, rfl, hbx⟩ := hgc
 exact fEndW c hP A1 hbx.bk) : P := h
theorem qa3a {P : Prop} (h : P := by
 intro w
 refine (fG w).mono ?_
 rintro e w' ⟨b, rfl, ⟨t1, t2, s1, e1, e2, k1, f50, x5, n1, x7, y5, r43, r45, f61, t0, MM, Bt1, Bt2, Bs1, Be1, Be2, Bk1, Bf50, Bx5, Bn1, Bx7, By5, Br43, Br45, Bf61, Bt0⟩, hb, hbl⟩
 exact ⟨b, _, #[.pointer (some ⟨k1, 0, none⟩)], #[.pointer (some ⟨f50, 0, none⟩)], (aO 170 x5), rfl, MM, by kernel_rfl, ⟨k1, rfl, Bk1⟩, ⟨f50, rfl, Bf50⟩, ⟨_, rfl, ⟨x5, rfl, Bx5⟩⟩, rfl, hbl⟩) : P := h
theorem qa3b {P : Prop} (h : P := by
 intro P B1 w1 s1 sc hP hG M1 A1 hcp hsc
 obtain ⟨a9, rfl, hbx⟩ := hsc
 exact fAlone M1 s1 x hP A1.lies Tryz.call145 hbx.bk (Lib.hid fun w2 M2 h2 => takeStepAny M2 hf hm hL s1 x (hx.mono aj) h2 hp hb.1 hb.2) wk) : P := h
theorem qa3c {P : Prop} (h : P := by
 intro P B1 w1 s1 gc hP A1 hgc
 obtain ⟨a9, rfl, hbx⟩ := hgc
 exact fFirst c hP A1 hbx.bk) : P := h
theorem qa3d {P : Prop} (h : P := by
 intro h2
 refine ⟨170, (dw (.int .i64 5) 32), Tryz.call170, aK _ _, fun h => h, Lib.hid ?_⟩
 intro P B1 w1 s1 gc hP A1 hgc
 obtain ⟨a9, rfl, hbx⟩ := hgc
 exact fFailW c hP A1 ((few_take (c := c) (a := a) (L := L) hx hb.2).mono aj) hbx.bk) : P := h
theorem qa3e {P : Prop} (h : P := by
 intro w
 refine (fG w).mono ?_
 rintro e w' ⟨b, rfl, ⟨t1, t2, s1, e1, e2, k1, f50, x5, n1, x7, y5, r43, r45, f61, t0, MM, Bt1, Bt2, Bs1, Be1, Be2, Bk1, Bf50, Bx5, Bn1, Bx7, By5, Br43, Br45, Bf61, Bt0⟩, hb, hbl⟩
 exact ⟨b, _, #[.pointer (some ⟨n1, 0, none⟩)], #[], (aO 170 y5), rfl, MM, by kernel_rfl, ⟨n1, rfl, Bn1⟩, rfl, ⟨_, rfl, ⟨y5, rfl, By5⟩⟩, rfl, hbl⟩) : P := h
theorem qa3f {P : Prop} (h : P := by
 intro P B1 w1 s1 sc hP hG M1 A1 hcp hsc
 obtain ⟨a9, rfl, hbx⟩ := hsc
 exact fAlone M1 s1 x hP A1.lies Tryz.call148 hbx.bk (Lib.hid fun w2 M2 h2 => (entryStepAny M2 hf hm hL s1 x (hx.mono aj) h2 hp).mono fun e w' q => gs_of q) wk) : P := h
theorem qa3g {P : Prop} (h : P := by
 intro P B1 w1 s1 gc hP A1 hgc
 obtain rfl : gc = #[] := hgc
 exact fThen c hP A1 ((gH hx _).mono aj)) : P := h
theorem qa3h {P : Prop} (h : P := by
 intro h2
 refine ⟨170, (dw (.int .i64 5) 32), Tryz.call170, aK _ _, fun h => h, Lib.hid ?_⟩
 intro P B1 w1 s1 gc hP A1 hgc
 obtain ⟨a9, rfl, hbx⟩ := hgc
 exact fFailW c hP A1 ((gH hx _).mono aj) hbx.bk) : P := h
theorem qa3i {P : Prop} (h : P := by
 intro w
 refine (fG w).mono ?_
 rintro e w' ⟨b, rfl, ⟨t1, t2, s1, e1, e2, k1, f50, x5, n1, x7, y5, r43, r45, f61, t0, MM, Bt1, Bt2, Bs1, Be1, Be2, Bk1, Bf50, Bx5, Bn1, Bx7, By5, Br43, Br45, Bf61, Bt0⟩, hb, hbl⟩
 exact ⟨b, _, #[.pointer (some ⟨n1, 0, none⟩)], #[], .nilFunc, rfl, MM, by kernel_rfl, ⟨n1, rfl, Bn1⟩, rfl, trivial, rfl, hbl⟩) : P := h
theorem qa3j {P : Prop} (h : P := by
 intro h2
 exact absurd h2 (by exact way_push aj)) : P := h
theorem qa3k {P : Prop} (h : P := by
 intro P B1 w1 s1 gc hP A1 hgc
 obtain ⟨a9, rfl, hbx⟩ := hgc
 exact fRoomW c hP A1 ((gH hx _).mono aj) (few_room (gH hx _)) hbx.bk) : P := h
theorem qa3l {P : Prop} (h : P := by
 intro h2
 refine ⟨170, (dw (.int .i64 7) 32), Tryz.call170, aK _ _, fun h => h, Lib.hid ?_⟩
 intro P B1 w1 s1 gc hP A1 hgc
 obtain ⟨a9, rfl, hbx⟩ := hgc
 exact fFailW c hP A1 ((gH hx _).mono aj) hbx.bk) : P := h
theorem qa3m {P : Prop} (h : P := by
 intro h2
 exact absurd h2 (by show ¬ fD c x = 2; unfold fD; split <;> decide)) : P := h
theorem qa3n {P : Prop} (h : P := by
 intro w
 refine (w_rulesT w).mono ?_
 rintro e w' ⟨b, rfl, ⟨t1, t2, s1, e1, e2, g1, n1, x7, y5, r43, r45, f61, t0, MM, Bt1, Bt2, Bs1, Be1, Be2, Bg1, Bn1, Bx7, By5, Br43, Br45, Bf61, Bt0⟩, hb, hbl⟩
 exact ⟨b, _, #[.pointer (some ⟨g1, 0, none⟩)], #[], .nilFunc, rfl, MM, by kernel_rfl, ⟨g1, rfl, Bg1⟩, rfl, trivial, rfl, hbl⟩) : P := h
theorem qa3o {P : Prop} (h : P := by
 intro P B1 w1 s1 sc hP hG M1 A1 hcp hsc
 obtain ⟨a9, rfl, hbx⟩ := hsc
 exact fAlone M1 s1 x hP A1.lies Tryz.call144 hbx.bk (Lib.hid fun w2 M2 h2 => giveStepAny M2 hf hm hL s1 x (hx.mono aj) h2 hp) wk) : P := h
theorem qa3p {P : Prop} (h : P := by
 intro P B1 w1 s1 gc hP A1 hgc
 obtain rfl : gc = #[] := hgc
 exact fRelW c hP A1) : P := h
theorem qa3q {P : Prop} (h : P := by
 intro h2
 exact absurd h2 (by exact way_give)) : P := h
theorem qa3r {P : Prop} (h : P := by
 try simp only [Act.put, jP]
 refine jR [13] ?_
 refine jC rfl (fun K hK => ?_) jN
 go_simp
 refine (bF M1 hm ka).mono ?_
 rintro e z2 ⟨rfl, M2, T2⟩
 have X2 := T2.bk X1 aj aj
 have Z2 := T2.bk Z1 aj aj
 have A2 : aM (fun b => P b ∧ b ≠ w.heap.size ∧ b ≠ w.heap.size + 1) z2 s x := ⟨A1.p, fF A1.rk T2 (fun b q => (hG b q.1).1) (fun b q => (hG b q.1).2), fF A1.l0 T2 (fun b q => (hG b q.1).1) (fun b q => (hG b q.1).2), fF A1.l1 T2 (fun b q => (hG b q.1).1) (fun b q => (hG b q.1).2), fF A1.l2 T2 (fun b q => (hG b q.1).1) (fun b q => (hG b q.1).2), fF A1.hl T2 (fun b q => (hG b q.1).1) (fun b q => (hG b q.1).2), fF A1.rd T2 (fun b q => (hG b q.1).1) (fun b q => (hG b q.1).2)⟩
 have TT2 := TT1.trans T2
 refine hK.out _ _ ⟨bk_rd X2, _, _, M2.B⟩ (fun hHeld => ?_)
 clear hK K
 try simp only [Act.put, jP]
 refine jR [14] ?_
 refine jC rfl (fun K hK => ?_) jN
 go_simp
 rw [← HVV]
 have hb3 : Below z2.heap.size z2 (z2.alloc (.cells #[.int .u64 vv] 22)) := (Below.refl _ _).alloc (Nat.le_refl _) _
 have X3 := X2.keep hb3
 have Z3 := Z2.keep hb3
 have M3 := M2.keep hb3
 have A3 := A2.keep hb3
 have TT3 := TT2.trans (Touch.of_below hb3)
 have R3 : Reads (z2.alloc (.cells #[.int .u64 vv] 22)) .u64 (.slice (some ⟨z2.heap.size, 0, none⟩) 1 1) [vv] := Reads.dn (l := [vv]) (t := 22) (Bk.new z2 _ _) qa70
 obtain ⟨gn, hgn⟩ : ∃ q, q = z2.heap.size := ⟨_, rfl⟩
 obtain ⟨z3, hz3⟩ : ∃ q, q = z2.alloc (.cells #[.int .u64 vv] 22) := ⟨_, rfl⟩
 rw [← hz3] at X3 Z3 M3 A3 TT3 R3 ⊢
 rw [← hgn] at R3 ⊢
 refine hK.out _ _ ⟨bk_rd X3, _, _, M3.B⟩ (fun hHeld => ?_)
 clear hK K hb3 hz3 hgn
 try simp only [Act.put, jP]
 refine jR [15] ?_
 refine jC rfl (fun K hK => ?_) jN
 have hrl := HFR.out
 refine gV elemU rfl (.tmp 10) (.tmp 23) rfl z3.heap.size s.rd x.rd rfl A3.rd.1 HCP.out _ [vv] rfl R3 aF bq (Nat.le_refl _) ?_
 intro y4 z4 O4 hb4
 have X4 := X3.keep hb4
 have Z4 := Z3.keep hb4
 have M4 := M3.keep hb4
 have A4 := A3.keep hb4
 have TT4 := TT3.trans (Touch.of_below hb4)
 have sz3 := TT3.size
 have lz3 := Z3.lt
 have lz4 := Z4.lt
 have hb5 := hb4.size
 have x4 := X4.cells
 have f4 := X4.frozen
 have l4 := X4.lt
 have O5 : bD z3.heap.size z4 .u64 22 y4 (x.rd ++ [vv]) := O4
 have R5 : RdP (fun b => P b ∧ b ≠ w.heap.size ∧ b ≠ w.heap.size + 1) z4 .u64 y4 (x.rd ++ [vv]) := ⟨O5.reads, O5.rdF.2.imp_right fun q d hd => ⟨hP _ qa71, by have := q d hd; omega, by have := q d hd; omega⟩⟩
 refine hK.out _ _ ⟨bk_rd X4, _, _, M4.B⟩ (fun hHeld => ?_)
 clear hK K hrl
 try simp only [Act.put, jP]
 refine jT 16 (.pointer (some ⟨w.heap.size, 29, none⟩)) rfl hHeld ?_
 try simp only [Act.put, jP]
 refine jR [17] ?_
 refine jC rfl (fun K hK => ?_) jN
 have e29 : ((z4.cell? ⟨w.heap.size, 29, none⟩).isSome) = true := qa72
 go_simp
 have X5 : Bk (z4.setCell ⟨w.heap.size, 29, none⟩ y4.v) w.heap.size (wc ({ s with rd := y4 } : Wk)) 46 := X4.setCell 29 y4.v
 have M5 : aC B (z4.setCell ⟨w.heap.size, 29, none⟩ y4.v) g c (acc L 1 ka 0 0) gl cap L := M4.apart (g' := w.heap.size) (gl' := w.heap.size) ((Touch.refl _ _ _).setCell (p := ⟨w.heap.size, 29, none⟩) (.inl rfl) _) aj aj aj aj
 refine hK.out _ _ ⟨⟨y4, X5⟩, _, _, M5.B⟩ (fun hHeld => ?_)
 clear hK K
 try simp only [Act.put, jP]
 refine wpAnyH_done ah ?_ _
 clear hHeld x4 f4 l4 e29
 have Z5 := Z4.aA (a := ⟨w.heap.size, 29, none⟩) aF y4.v
 have A5 := A4.cell (g := w.heap.size) (fun q => q.2.1 rfl) 29 y4.v
 have R6 := R5.cell (g := w.heap.size) (fun q => q.2.1 rfl) 29 y4.v
 have B5 : aM (fun b => P b ∧ b ≠ w.heap.size ∧ b ≠ w.heap.size + 1) (z4.setCell ⟨w.heap.size, 29, none⟩ y4.v) ({ s with rd := y4 } : Wk) { x with rd := x.rd ++ [vv] } := ⟨A5.p, A5.rk, A5.l0, A5.l1, A5.l2, A5.hl, R6⟩
 have TT5 : Touch g gl w (z4.setCell ⟨w.heap.size, 29, none⟩ y4.v) := touchC TT4 (Nat.le_refl _) _
 obtain ⟨z5, hz5⟩ : ∃ q, q = z4.setCell ⟨w.heap.size, 29, none⟩ y4.v := ⟨_, rfl⟩
 have sz5 : z4.heap.size = z5.heap.size := by rw [hz5]; simp
 rw [← hz5] at X5 Z5 B5 M5 TT5 ⊢
 have HP' : ∀ b, z5.heap.size ≤ b → (P b ∧ b ≠ w.heap.size ∧ b ≠ w.heap.size + 1) := fun b hb => ⟨hP b aj, by omega, by omega⟩
 have HNX := Lib.hid (fNext HP' B5 M5)
 clear A5 R6 hz5
 go_wp2_with (first | (refine wpList_load_row rfl 46 _ rfl (w.heap.size) rfl _ (wc ({ s with rd := y4 } : Wk)) (0, 0) _ (by exact X5) Tryz.underlying46 rfl ah ?_))
 refine HNX.out.mono ?_
 rintro e w5 ⟨s5, rfl, A5, hb5⟩
 have Z6 := Z5.keep hb5
 have M6 := M5.keep hb5
 have TT6 := TT5.trans (Touch.of_below hb5)
 go_wp2_with (first | (refine wpList_store_row rfl 46 _ _ rfl (w.heap.size + 1) (wc s5) rfl rfl _ _ qa73 ah ah ah ?_))
 have ZF := Z6.setRow (wc s5)
 refine bodyPost_ret (v := .tuple #[wv s5, .int .i64 (fD c x), .bool true]) ?_ rfl ⟨_, rfl, (A5.row (g := w.heap.size + 1) (fun q => q.2.2 rfl) _).mono (fun b _ q => q.1), M6.apart (g' := w.heap.size + 1) (gl' := w.heap.size + 1) ((Touch.refl _ _ _).setRow _) aj aj aj aj, jH TT6 aj _⟩
 exact Rw.results_cell_slot2 (p := 6) (q := 7) (r := 8) (ty := 46) Tryz.results156 _ _ (w.heap.size + 1) 46 _ (0, 0) _ rfl ZF Tryz.underlying46 rfl ah) : P := h
theorem qa3s {P : Prop} (h : P := by
 try simp only [Act.put, jP]
 refine jR [13] ?_
 refine jC rfl (fun K hK => ?_) jN
 go_simp
 refine (bF M1 hm ka).mono ?_
 rintro e z2 ⟨rfl, M2, T2⟩
 have X2 := T2.bk X1 aj aj
 have Z2 := T2.bk Z1 aj aj
 have A2 : aM (fun b => P b ∧ b ≠ w.heap.size ∧ b ≠ w.heap.size + 1) z2 s x := ⟨A1.p, fF A1.rk T2 (fun b q => (hG b q.1).1) (fun b q => (hG b q.1).2), fF A1.l0 T2 (fun b q => (hG b q.1).1) (fun b q => (hG b q.1).2), fF A1.l1 T2 (fun b q => (hG b q.1).1) (fun b q => (hG b q.1).2), fF A1.l2 T2 (fun b q => (hG b q.1).1) (fun b q => (hG b q.1).2), fF A1.hl T2 (fun b q => (hG b q.1).1) (fun b q => (hG b q.1).2), fF A1.rd T2 (fun b q => (hG b q.1).1) (fun b q => (hG b q.1).2)⟩
 have TT2 := TT1.trans T2
 refine hK.out _ _ ⟨bk_rd X2, _, _, M2.B⟩ (fun hHeld => ?_)
 clear hK K
 try simp only [Act.put, jP]
 refine jR [14] ?_
 refine jC rfl (fun K hK => ?_) jN
 go_simp
 rw [← HVV]
 have hb3 : Below z2.heap.size z2 (z2.alloc (.cells #[.int .u64 vv] 22)) := (Below.refl _ _).alloc (Nat.le_refl _) _
 have X3 := X2.keep hb3
 have Z3 := Z2.keep hb3
 have M3 := M2.keep hb3
 have A3 := A2.keep hb3
 have TT3 := TT2.trans (Touch.of_below hb3)
 have R3 : Reads (z2.alloc (.cells #[.int .u64 vv] 22)) .u64 (.slice (some ⟨z2.heap.size, 0, none⟩) 1 1) [vv] := Reads.dn (l := [vv]) (t := 22) (Bk.new z2 _ _) qa70
 obtain ⟨gn, hgn⟩ : ∃ q, q = z2.heap.size := ⟨_, rfl⟩
 obtain ⟨z3, hz3⟩ : ∃ q, q = z2.alloc (.cells #[.int .u64 vv] 22) := ⟨_, rfl⟩
 rw [← hz3] at X3 Z3 M3 A3 TT3 R3 ⊢
 rw [← hgn] at R3 ⊢
 refine hK.out _ _ ⟨bk_rd X3, _, _, M3.B⟩ (fun hHeld => ?_)
 clear hK K hb3 hz3 hgn
 try simp only [Act.put, jP]
 refine jR [15] ?_
 refine jC rfl (fun K hK => ?_) jN
 have hrl := HFR.out
 refine gV elemU rfl (.tmp 10) (.tmp 23) rfl z3.heap.size s.rd x.rd rfl A3.rd.1 HCP.out _ [vv] rfl R3 aF bq (Nat.le_refl _) ?_
 intro y4 z4 O4 hb4
 have X4 := X3.keep hb4
 have Z4 := Z3.keep hb4
 have M4 := M3.keep hb4
 have A4 := A3.keep hb4
 have TT4 := TT3.trans (Touch.of_below hb4)
 have sz3 := TT3.size
 have lz3 := Z3.lt
 have lz4 := Z4.lt
 have hb5 := hb4.size
 have x4 := X4.cells
 have f4 := X4.frozen
 have l4 := X4.lt
 have O5 : bD z3.heap.size z4 .u64 22 y4 (x.rd ++ [vv]) := O4
 have R5 : RdP (fun b => P b ∧ b ≠ w.heap.size ∧ b ≠ w.heap.size + 1) z4 .u64 y4 (x.rd ++ [vv]) := ⟨O5.reads, O5.rdF.2.imp_right fun q d hd => ⟨hP _ qa71, by have := q d hd; omega, by have := q d hd; omega⟩⟩
 refine hK.out _ _ ⟨bk_rd X4, _, _, M4.B⟩ (fun hHeld => ?_)
 clear hK K hrl
 try simp only [Act.put, jP]
 refine jT 16 (.pointer (some ⟨w.heap.size, 29, none⟩)) rfl hHeld ?_
 try simp only [Act.put, jP]
 refine jR [17] ?_
 refine jC rfl (fun K hK => ?_) jN
 have e29 : ((z4.cell? ⟨w.heap.size, 29, none⟩).isSome) = true := qa72
 go_simp
 have X5 : Bk (z4.setCell ⟨w.heap.size, 29, none⟩ y4.v) w.heap.size (wc ({ s with rd := y4 } : Wk)) 46 := X4.setCell 29 y4.v
 have M5 : aC B (z4.setCell ⟨w.heap.size, 29, none⟩ y4.v) g c (acc L 1 ka 0 0) gl cap L := M4.apart (g' := w.heap.size) (gl' := w.heap.size) ((Touch.refl _ _ _).setCell (p := ⟨w.heap.size, 29, none⟩) (.inl rfl) _) aj aj aj aj
 refine hK.out _ _ ⟨⟨y4, X5⟩, _, _, M5.B⟩ (fun hHeld => ?_)
 clear hK K
 try simp only [Act.put, jP]
 refine wpAnyH_done ah ?_ _
 clear hHeld x4 f4 l4 e29
 have Z5 := Z4.aA (a := ⟨w.heap.size, 29, none⟩) aF y4.v
 have A5 := A4.cell (g := w.heap.size) (fun q => q.2.1 rfl) 29 y4.v
 have R6 := R5.cell (g := w.heap.size) (fun q => q.2.1 rfl) 29 y4.v
 have B5 : aM (fun b => P b ∧ b ≠ w.heap.size ∧ b ≠ w.heap.size + 1) (z4.setCell ⟨w.heap.size, 29, none⟩ y4.v) ({ s with rd := y4 } : Wk) { x with rd := x.rd ++ [vv] } := ⟨A5.p, A5.rk, A5.l0, A5.l1, A5.l2, A5.hl, R6⟩
 have TT5 : Touch g gl w (z4.setCell ⟨w.heap.size, 29, none⟩ y4.v) := touchC TT4 (Nat.le_refl _) _
 obtain ⟨z5, hz5⟩ : ∃ q, q = z4.setCell ⟨w.heap.size, 29, none⟩ y4.v := ⟨_, rfl⟩
 have sz5 : z4.heap.size = z5.heap.size := by rw [hz5]; simp
 rw [← hz5] at X5 Z5 B5 M5 TT5 ⊢
 have HP' : ∀ b, z5.heap.size ≤ b → (P b ∧ b ≠ w.heap.size ∧ b ≠ w.heap.size + 1) := fun b hb => ⟨hP b aj, by omega, by omega⟩
 have HNX := Lib.hid (fNext HP' B5 M5)
 clear A5 R6 hz5
 go_wp2_with (first | (refine wpList_load_row rfl 46 _ rfl (w.heap.size) rfl _ (wc ({ s with rd := y4 } : Wk)) (0, 0) _ (by exact X5) Tryz.underlying46 rfl ah ?_))
 refine HNX.out.mono ?_
 rintro e w5 ⟨s5, rfl, A5, hb5⟩
 have Z6 := Z5.keep hb5
 have M6 := M5.keep hb5
 have TT6 := TT5.trans (Touch.of_below hb5)
 go_wp2_with (first | (refine wpList_store_row rfl 46 _ _ rfl (w.heap.size + 1) (wc s5) rfl rfl _ _ qa73 ah ah ah ?_))
 have ZF := Z6.setRow (wc s5)
 refine bodyPost_ret (v := .tuple #[wv s5, .int .i64 (fD c x), .bool true]) ?_ rfl ⟨_, rfl, (A5.row (g := w.heap.size + 1) (fun q => q.2.2 rfl) _).mono (fun b _ q => q.1), M6.apart (g' := w.heap.size + 1) (gl' := w.heap.size + 1) ((Touch.refl _ _ _).setRow _) aj aj aj aj, jH TT6 aj _⟩
 exact Rw.results_cell_slot2 (p := 6) (q := 7) (r := 8) (ty := 46) Tryz.results158 _ _ (w.heap.size + 1) 46 _ (0, 0) _ rfl ZF Tryz.underlying46 rfl ah) : P := h
theorem qa3t {P : Prop} (h : P := by exact Rw.results_cell_slot2 (p := 4) (q := 5) (r := 6) (ty := 46) Tryz.results179 _ _ (w.heap.size + 1) 46 _ (0, 0) _ rfl ZF.Z Tryz.underlying46 rfl ah) : P := h
theorem qa3u {P : Prop} (h : P := by exact Rw.results_cell_slot (p := 6) (q := 7) (ty := 46) Tryz.results221 _ _ (w.heap.size + 1 + 1) 46 _ (0, 0) _ rfl T5.Z Tryz.underlying46 rfl ah) : P := h
theorem qa3v {P : Prop} (h : P := by exact Rw.results_cell_slot (p := 2) (q := 3) (ty := 46) Tryz.results176 _ _ (w.heap.size + 1) 46 _ (0, 0) _ rfl T5.Z Tryz.underlying46 rfl ah) : P := h
theorem qa3w {P : Prop} (h : P := by refine (World.cell?_of_block (setRow_other _ (w.heap.size + 1) g _ aj)).trans ((World.cell?_of_block (heap_setCell_other _ _ g _ (by simpa using hgx))).trans (World.cell?_of_block (setRow_other w1 (w.heap.size) g _ hgx)))) : P := h
theorem qa3x {P : Prop} (h : P := by exact Rw.results_cell_slot (p := 2) (q := 3) (ty := 46) Tryz.results216 _ _ (w.heap.size + 1) 46 _ (0, 0) _ rfl T5.Z Tryz.underlying46 rfl ah) : P := h
theorem qa3y {P : Prop} (h : P := by
 have hb : 0 < x.hl.length := aj
 unfold nextB
 rw [List.headD_eq_head?_getD, List.head?_eq_getElem?]
 simp [hb]) : P := h
theorem qa3z {P : Prop} (h : P := by
 clear h A
 go_enter Tryz.func167, Tryz.ntmps167
 exact qa4a) : P := h
theorem qa40 {P : Prop} (h : P := by
 clear HE hv
 exact qa4b) : P := h
theorem qa41 {P : Prop} (h : P := by
 go_enter Tryz.func101, Tryz.ntmps101
 go_upto_region 1 with fail
 rw [← hw1]
 clear hw1
 go_wp2_with (first | (go_at_call 60; refine HFD.out.mono ?_; rintro e w' ⟨rfl, rfl⟩))
 go_quiet (fail)
 go_wp2
 go_ret
 exact ⟨rfl, bdN HB.out _⟩) : P := h
theorem qa42 {P : Prop} (h : P := by
 go_wp2_with fail
 refine (HU.out _).mono ?_
 rintro r w1 ⟨rfl, hb1⟩
 go_wp2
 go_ret
 exact ⟨rfl, hb1⟩) : P := h
theorem qa43 {P : Prop} (h : P := by
 clear C0 x0 z0
 go_wp2_with (first | (refine wpList_load_row rfl 46 _ rfl (w.heap.size + 1) rfl _ (wc s) (0, 0) _ qa6f Tryz.underlying46 rfl ah ?_))
 refine HC.out.mono ?_
 rintro e w9 ⟨s9, rfl, A9, hb9⟩
 have T9 := T5.keep hb9
 exact qa4c) : P := h
theorem qa44 {P : Prop} (h : P := by
 have x0 := h.X.cells
 clear hl
 go_enter Tryz.func172, Tryz.ntmps172
 exact qa48) : P := h
theorem qa45 {P : Prop} (h : P := by
 go_enter Tryz.func48, Tryz.ntmps48
 go_wp2_with (first | (refine wpList_load_row rfl 24 _ rfl w.heap.size rfl _ (ccM c) (0, 0) _ qa6z Tryz.underlying24 rfl ah ?_) | (refine fC rfl 24 _ rfl w.heap.size rfl _ (ccM c) (0, 0) _ qa6z Tryz.underlying24 rfl ah ?_))
 refine (HP.out _).mono ?_
 rintro e w1 ⟨rfl, hb1⟩
 have hw1 := hw0.trans (hb1.mono hw0.size)
 have C1 := C0.keep hb1
 have P1 := Bk.new w1 (ccM c) 86
 have C2 := C1.keep ((Below.refl _ w1).alloc (Nat.le_refl _) (.cells (ccM c) 86))
 have hw2 := hw1.alloc hw1.size (.cells (ccM c) 86)
 have x1 := P1.cells
 clear hw0 hb1 C0 C1 hw1
 go_wp2_with fail
 refine (HUT.out _).mono ?_
 rintro e w3 ⟨rfl, rfl⟩
 go_wp2_with fail
 refine (HA.out _).mono ?_
 rintro e w4 ⟨rfl, hb4⟩
 have hw4 := hw2.trans (hb4.mono hw2.size)
 have C4 := C2.keep hb4
 have x4 := C4.cells
 clear x1 P1 C2 hb4 hw2
 go_wp2
 go_ret
 exact ⟨rfl, hw4⟩) : P := h
theorem qa46 {P : Prop} (h : P := by
 have f0 : ∀ s : Wk, (wc s)[0]? = some (.int .i64 s.p.ln) := fun _ => rfl
 have t1 : (s.p.ln == 1) = false := jB hl
 have t2 : (s.p.ln == 2) = false := jB hl
 have t3 : (s.p.ln == 3) = false := jB hl
 have t90 : (s.p.ln == 90) = false := jB hl
 have t70 : (s.p.ln == 70) = false := jB hl
 have t71 : (s.p.ln == 71) = true := jB hl
 exact qa4d) : P := h
theorem qa47 {P : Prop} (h : P := by
 go_wp2
 go_ret
 exact ⟨cu HK.out.symm, ((Below.refl _ _).alloc (Nat.le_refl _) _).trans (hb2.mono aF)⟩) : P := h
theorem qa48 {P : Prop} (h : P := by
 go_wp2_with fail
 refine HC.out.mono ?_
 rintro en w1 ⟨rfl, H1⟩
 go_wp2
 go_ret2
 exact ⟨rfl, H1⟩) : P := h
theorem qa49 {P : Prop} (h : P := by
 have f0 : ∀ s : Wk, (wc s)[0]? = some (.int .i64 s.p.ln) := fun _ => rfl
 have t30 : (s.p.ln == 30) = false := jB hl
 have t31 : (s.p.ln == 31) = false := jB hl
 have t32 : (s.p.ln == 32) = false := jB hl
 have t33 : (s.p.ln == 33) = true := jB hl
 exact qa2c) : P := h
theorem qa4a {P : Prop} (h : P := by
 go_wp2_with fail
 refine HG.out.mono ?_
 rintro e w1 ⟨s3, rfl, H3, A3⟩
 go_wp2
 go_ret2
 exact ⟨s3, by rw [HOK.out]; rfl, H3, A3⟩) : P := h
theorem qa4b {P : Prop} (h : P := by
 go_wp2
 go_ret
 exact ⟨Wd.gB HF.out.symm, HB.out⟩) : P := h
theorem qa4c {P : Prop} (h : P := by
 go_wp2_with (first | (refine wpList_store_row rfl 46 _ _ rfl (w.heap.size + 1 + 1) (wc s9) rfl rfl _ _ eP ah ah ah ?_))
 have ZF := T9.bN s9
 refine bodyPost_ret (v := wv s9) ?_ rfl ⟨s9, rfl, ((A9.row (g := w.heap.size + 1 + 1) (fun q => q.2.2 rfl) _).mono (fun b _ q => q.1)), ZF.below⟩
 exact results_cell_row (p := 4) (ty := 46) Tryz.results93 _ _ (w.heap.size + 1 + 1) 46 _ (0, 0) _ rfl ZF.Z Tryz.underlying46 rfl ah) : P := h
theorem qa4d {P : Prop} (h : P := by
 have x0 := h.X.cells
 clear hl
 go_enter Tryz.func159, Tryz.ntmps159
 exact qa48) : P := h
theorem aj {P : Prop} (h : P := by omega) : P := h
theorem qa4f {P : Prop} (h : P := by unfold maxLen; omega) : P := h
theorem qa4g {P : Prop} (h : P := by simpa using hi) : P := h
theorem bq {P : Prop} (h : P := by simp; omega) : P := h
theorem aF {P : Prop} (h : P := by simp) : P := h
theorem qa4j {P : Prop} (h : P := by rw [hsz]; exact hsrc) : P := h
theorem aL {P : Prop} (h : P := by decide) : P := h
theorem qa4l {P : Prop} (h : P := by rw [hsz, hlen]; have := (reads_src E.under hdr).cellsD; rw [← hlen] at this; exact hlen ▸ this) : P := h
theorem qa4m {P : Prop} (h : P := by unfold Small; omega) : P := h
theorem ah {P : Prop} (h : P := by kernel_rfl) : P := h
theorem qa4o {P : Prop} (h : P := by rw [hv]; decide) : P := h
theorem qa4p {P : Prop} (h : P := by have := hb2.size; simp at this; omega) : P := h
theorem qa4q {P : Prop} (h : P := by have := hb1.size; simp at this; omega) : P := h
theorem qa4r {P : Prop} (h : P := by simp [Value.oneCell']) : P := h
theorem qa4s {P : Prop} (h : P := by have := hown.2.size; simp at this ⊢; omega) : P := h
theorem qa4t {P : Prop} (h : P := by have := hbr.size; simp; omega) : P := h
theorem qa4u {P : Prop} (h : P := by rw [IntKind.wrap_u64]; omega) : P := h
theorem fZ {P : Prop} (h : P := by unfold maxLen; simp) : P := h
theorem bT {P : Prop} (h : P := by exact T0.X) : P := h
theorem dG {P : Prop} (h : P := by exact T1.X) : P := h
theorem qa4y {P : Prop} (h : P := by simp at hs1 ⊢; omega) : P := h
theorem qa4z {P : Prop} (h : P := by exact T4.X) : P := h
theorem qa50 {P : Prop} (h : P := by exact T4.Z) : P := h
theorem qa51 {P : Prop} (h : P := by exact T2.X) : P := h
theorem qa52 {P : Prop} (h : P := by exact T3.X) : P := h
theorem qa53 {P : Prop} (h : P := by exact T3.Z) : P := h
theorem qa54 {P : Prop} (h : P := by have := HN.out; omega) : P := h
theorem qa55 {P : Prop} (h : P := by obtain ⟨p, rk, l0, l1, l2, hl, rd⟩ := x; simp only at hm; subst hm; rfl) : P := h
theorem qa56 {P : Prop} (h : P := by simp [Region.wanted, hgd]) : P := h
theorem qa57 {P : Prop} (h : P := by have h9 := hb1.size; rw [hsz] at h9; rw [hw2]; simpa using h9) : P := h
theorem qa58 {P : Prop} (h : P := by exact HE.X) : P := h
theorem qa59 {P : Prop} (h : P := by exact ZE) : P := h
theorem qa5a {P : Prop} (h : P := by rw [x3, f0]; rfl) : P := h
theorem ji {P : Prop} (h : P := by exact Z1) : P := h
theorem qa5c {P : Prop} (h : P := by simp [hl]) : P := h
theorem qa5d {P : Prop} (h : P := by rw [xw3, f25]; rfl) : P := h
theorem qa5e {P : Prop} (h : P := by have := HZ.out; simp [this]) : P := h
theorem qa5f {P : Prop} (h : P := by rw [H5.X.cells, f0]; rfl) : P := h
theorem qa5g {P : Prop} (h : P := by rw [xw2, f0]; rfl) : P := h
theorem qa5h {P : Prop} (h : P := by rw [H4.X.cells, f0]; rfl) : P := h
theorem iN {P : Prop} (h : P := by simp at hd; simp; omega) : P := h
theorem qa5j {P : Prop} (h : P := by simp [sk12, skSwap, skH, d9, hb]) : P := h
theorem qa5k {P : Prop} (h : P := by simp [sk15, skSwap, skH, d9, hb]) : P := h
theorem qa5l {P : Prop} (h : P := by simp only [bne, t1]; rfl) : P := h
theorem qa5m {P : Prop} (h : P := by exact X0) : P := h
theorem qa5n {P : Prop} (h : P := by exact Y1) : P := h
theorem qa5o {P : Prop} (h : P := by exact Z3) : P := h
theorem qa5p {P : Prop} (h : P := by exact X3) : P := h
theorem qa5q {P : Prop} (h : P := by simp [hw]) : P := h
theorem qa5r {P : Prop} (h : P := by have := T2.size; omega) : P := h
theorem qa5s {P : Prop} (h : P := by rw [hw3]; simp) : P := h
theorem qa5t {P : Prop} (h : P := by rw [hw5]; simp) : P := h
theorem qa5u {P : Prop} (h : P := by exact Z5) : P := h
theorem qa5v {P : Prop} (h : P := by simp [hs]) : P := h
theorem qa5w {P : Prop} (h : P := by simp [h3]) : P := h
theorem qa5x {P : Prop} (h : P := by have := HE.out; simp [this]) : P := h
theorem qa5y {P : Prop} (h : P := by rw [H2.X.cells, f0]; rfl) : P := h
theorem qa5z {P : Prop} (h : P := by rw [x2, f25]; rfl) : P := h
theorem qa60 {P : Prop} (h : P := by simp [h0]) : P := h
theorem qa61 {P : Prop} (h : P := by simp [hw1]) : P := h
theorem jy {P : Prop} (h : P := by rfl) : P := h
theorem qa63 {P : Prop} (h : P := by rw [hza]; exact heap_alloc_old z1 _ MM.lt) : P := h
theorem qa64 {P : Prop} (h : P := by simpa using q) : P := h
theorem qa65 {P : Prop} (h : P := by simpa using q') : P := h
theorem qa66 {P : Prop} (h : P := by have := HT2.out.below.size; omega) : P := h
theorem qa67 {P : Prop} (h : P := by rw [gu.p]) : P := h
theorem qa68 {P : Prop} (h : P := by have h := T0.X.cells 31; exact congrArg Option.isSome (h.trans (f31 _))) : P := h
theorem eP {P : Prop} (h : P := by exact T9.Z) : P := h
theorem qa6a {P : Prop} (h : P := by have h := T0.X.cells 8; exact congrArg Option.isSome (h.trans (f8 _))) : P := h
theorem qa6b {P : Prop} (h : P := by have h := T1.X.cells 22; exact congrArg Option.isSome (h.trans (f22 _))) : P := h
theorem qa6c {P : Prop} (h : P := by simp [h1]) : P := h
theorem qa6d {P : Prop} (h : P := by have h := T0.X.cells 28; exact congrArg Option.isSome (h.trans (f28 _))) : P := h
theorem qa6e {P : Prop} (h : P := by have h := T0.X.cells 32; exact congrArg Option.isSome (h.trans (f32 _))) : P := h
theorem qa6f {P : Prop} (h : P := by exact T5.X) : P := h
theorem qa6g {P : Prop} (h : P := by rw [hw6]; simp) : P := h
theorem qa6h {P : Prop} (h : P := by exact T6.X) : P := h
theorem qa6i {P : Prop} (h : P := by rw [ep]; exact e) : P := h
theorem qa6j {P : Prop} (h : P := by have h := T1.X.cells 21; exact congrArg Option.isSome (h.trans (f21 _))) : P := h
theorem qa6k {P : Prop} (h : P := by rw [Int.tmod_eq_emod_of_nonneg h0]; exact hM) : P := h
theorem qa6l {P : Prop} (h : P := by exact (T0k _).X) : P := h
theorem qa6m {P : Prop} (h : P := by simp <;> omega) : P := h
theorem qa6n {P : Prop} (h : P := by rw [h.p]; exact hT) : P := h
theorem qa6o {P : Prop} (h : P := by rw [HP.out]; exact H0.out) : P := h
theorem gD {P : Prop} (h : P := by exact R.T.X) : P := h
theorem qa6q {P : Prop} (h : P := by have := hx.l0; omega) : P := h
theorem qa6r {P : Prop} (h : P := by rw [HP.out]; exact H1.out) : P := h
theorem qa6s {P : Prop} (h : P := by have := hx.l1; omega) : P := h
theorem qa6t {P : Prop} (h : P := by rw [HP.out]; exact H2.out) : P := h
theorem qa6u {P : Prop} (h : P := by have := hx.l2; omega) : P := h
theorem qa6v {P : Prop} (h : P := by exact R.K) : P := h
theorem qa6w {P : Prop} (h : P := by exact Q6.X) : P := h
theorem qa6x {P : Prop} (h : P := by exact Q6.Z) : P := h
theorem qa6y {P : Prop} (h : P := by rw [hv0]; exact ((Bk.new w (ccM c) 24).alloc _).alloc _) : P := h
theorem qa6z {P : Prop} (h : P := by exact C0) : P := h
theorem qa70 {P : Prop} (h : P := by show 1 ≤ maxLen; decide) : P := h
theorem qa71 {P : Prop} (h : P := by have := q d hd; omega) : P := h
theorem qa72 {P : Prop} (h : P := by rw [x4]; rfl) : P := h
theorem qa73 {P : Prop} (h : P := by exact Z6) : P := h
theorem dS {P : Prop} (h : P := by unfold ay; simp [hln, hgv]) : P := h
theorem qa75 {P : Prop} (h : P := by rw [hv0]; exact (((Bk.new w (ccM c) 24).alloc _).alloc _).cells 1) : P := h
theorem qa76 {P : Prop} (h : P := by rw [h.mu.box.cells]; rfl) : P := h
theorem qa77 {P : Prop} (h : P := by exact HRG.out) : P := h
theorem qa78 {P : Prop} (h : P := by rw [hw2, heb]; exact Bk.new _ _ _) : P := h
theorem qa79 {P : Prop} (h : P := by rw [hw2]; exact hb1.alloc sz1 _) : P := h
theorem qa7a {P : Prop} (h : P := by rw [hw3]; exact Z2.setRow _) : P := h
theorem qa7b {P : Prop} (h : P := by rw [hz1]; exact (Below.refl _ _).alloc (Nat.le_refl _) _) : P := h
theorem qa7c {P : Prop} (h : P := by rw [X0.cells]; rfl) : P := h
theorem qa7d {P : Prop} (h : P := by simp [h90]) : P := h
theorem qa7e {P : Prop} (h : P := by rw [wsC_size, HQ.out]; show 36 * i + 2 + 33 ≤ _; omega) : P := h
theorem qa7f {P : Prop} (h : P := by have := HES3.out; omega) : P := h
theorem qa7g {P : Prop} (h : P := by rw [(HP5.out.keep HB12.out).ha.mu.box.cells]; rfl) : P := h
theorem qa7h {P : Prop} (h : P := by rw [hz13]; exact HB12.out.alloc HB12.out.size _) : P := h
theorem qa7i {P : Prop} (h : P := by rw [hz13, hgn3]; exact Bk.new _ _ _) : P := h
theorem qa7j {P : Prop} (h : P := by rw [(HP5.out.keep HB13.out).ha.mu.box.cells]; rfl) : P := h
theorem qa7k {P : Prop} (h : P := by rw [X14.cells]; rfl) : P := h
theorem qa7l {P : Prop} (h : P := by rw [(HP9.out.keep HB12.out).ha.mu.box.cells]; rfl) : P := h
theorem qa7m {P : Prop} (h : P := by rw [(HP9.out.keep HB13.out).ha.mu.box.cells]; rfl) : P := h
theorem qa7n {P : Prop} (h : P := by rw [HED6.out, HD1.out]; show x6.rd.length ≤ 1000; rw [HX6d.out, begin_rd]; simp) : P := h
theorem qa7o {P : Prop} (h : P := by have := HFD.out; rw [ef] at this; exact this) : P := h
theorem qa7p {P : Prop} (h : P := by have f := HW1.out.few i hi'; exact f.mono aj) : P := h
theorem qa7q {P : Prop} (h : P := by rw [hw1]; exact Bk.new w _ _) : P := h
theorem qa7r {P : Prop} (h : P := by rw [hw1]; exact (Below.refl _ _).alloc (Nat.le_refl _) _) : P := h
theorem qa7s {P : Prop} (h : P := by rw [hw4]; exact (Below.refl _ _).alloc (Nat.le_refl _) _) : P := h
theorem qa7t {P : Prop} (h : P := by rw [hw2]; exact below_setRow b0 (Nat.le_refl _) _) : P := h
theorem qa7u {P : Prop} (h : P := by decide +kernel) : P := h
theorem qa7v {P : Prop} (h : P := by rw [hd1_at]; exact Nat.zero_le _) : P := h
theorem qa7w {P : Prop} (h : P := by exact Z5.keep hb) : P := h
theorem qa7x {P : Prop} (h : P := by rw [hl]; exact IntWalk.wrap64_in _ aj) : P := h
theorem qa7y {P : Prop} (h : P := by rw [hw3]; exact below_setRow b2 aj _) : P := h
theorem qa7z {P : Prop} (h : P := by have := HROW.out z2 B2 0 aj; rw [Nat.add_zero] at this; rw [this, ← epl]; rfl) : P := h
theorem qa80 {P : Prop} (h : P := by rw [hgs]; exact World.ownsRow_lit w #[] 0 (Nat.le_refl _) qa4f rfl) : P := h
end Go.Proofs.YtaiodbcnbcdokaaGreat
