/- Part HaStart. -/
import Derived.Test.YtaiodbcnbcdokaaGreatKHaTick
import Derived.Test.YtaiodbcnbcdokaaGreatKHaStep
set_option linter.unusedVariables false
set_option linter.unusedSimpArgs false
set_option linter.unusedSectionVars false
set_option maxRecDepth 100000
set_option maxHeartbeats 16000000
namespace Go.Proofs.YtaiodbcnbcdokaaGreat.Ha
open Go Go.RowKit Go.ChangeMaps Gro Own Wd Ap Go.Proofs.YtaiodbcnbcdokaaGreat.Pl Wo Me Shp Opn
abbrev OTy : TypeId := 30
theorem run_alloc_op (w : World) : (Instr.alloc OTy true (.tuple #[])).run Tryz.prog w = .ok (.pointer (some ⟨w.heap.size, 0, none⟩)) (w.alloc (.cells (oC OpD.zero) OTy)) := ah
theorem step_alloc_op {ops : Array Oper} {o : Oper} {a : Act} {w : World} {Q : Exit → Act → World → Prop} {K : Act → World → Prop} {F : Prop} (hgd : o.guard = none) (ho : o.op = .alloc OTy)
  (h : K (a.put o.dst (.pointer (some ⟨w.heap.size, 0, none⟩))) (w.alloc (.cells (oC OpD.zero) OTy))) : if Region.wanted o (yielded ops a.tmps) = true then Oper.wp Tryz.prog o a w K Q else F := by
 rw [if_pos qa56]
 unfold Oper.wp
 simp [execOp, ho, run_alloc_op, Result.andThen]
 exact h
theorem step_load_mid {P : Program} {ops : Array Oper} {o : Oper} {a : Act} {w : World} {Q : Exit → Act → World → Prop} {K : Act → World → Prop} {E : Prop} (hgd : o.guard = none) (ty : TypeId) (x : Operand) (ho : o.op = .load ty x)
  (b off : Nat) (hx : a.eval x = .pointer (some ⟨b, off, none⟩)) (cs : List Value) (d : TypeDesc) (hc : w.rangeAt b off cs) (hu : P.underlying ty = some d) (hd : d.isRow = true) (hi : (P.info? ty).map (·.size) = some cs.length)
  (h : K (a.put o.dst (.agg cs.toArray)) w) : if Region.wanted o (yielded ops a.tmps) = true then Oper.wp P o a w K Q else E := by
 rw [if_pos qa56]
 exact wp_load_mid ty x ho b off hx cs d hc hu hd hi h
theorem step_subB {P : Program} {ops : Array Oper} {o : Oper} {a : Act} {w : World} {Q : Exit → Act → World → Prop} {K : Act → World → Prop} {E : Prop} (hgd : o.guard = none) (ty : TypeId) (x y : Operand) (ho : o.op = .store ty x y)
  (g off : Nat) (cells : Array Value) (hx : a.eval x = .pointer (some ⟨g, off, none⟩)) (hy : a.eval y = .agg cells)
  (t : TypeId) (old new : Array Value) (hg : w.heap[g]? = some (.cells old t (0, 0))) (hi : (P.info? ty).map (·.size) = some cells.size)
  (hold : off + cells.size ≤ old.size) (h1 : cells.all (·.oneCell') = true) (hn : Sub.gY old off cells.toList = new)
  (h : K (a.put o.dst undef) (w.setRow g new)) : if Region.wanted o (yielded ops a.tmps) = true then Oper.wp P o a w K Q else E := by
 rw [if_pos qa56]
 unfold Oper.wp execOp
 simp only [ho, hx, hy, Instr.storeAt, Instr.sureAddr, Sem.run_bind, Sem.run_pure, Result.andThen_ok, Sub.iB w g off t ty old cells new hg hi hold h1 hn]
 exact h
theorem ws_rangeB {w : World} {b : Nat} {rs : List WkR} (h : Bk w b (wsC rs) WTy) {i : Nat} (hi : i < rs.length) : w.rangeAt b (36 * i + 2) (wc rs[i].s).toList := fun j v hv => qa1m
theorem cfg_range {w : World} {gm gl cap : Nat} {c : Cfg} {a : Acc} {L : List Int} (M : aC 0 w gm c a gl cap L) : w.rangeAt gm 0 (ccW c).toList := fun j v hv => by
 rw [M.B.cells]
 rcases j with _ | _ | _ | _ | _ | _ | _ | _ | j <;> first | exact hv | (simp at hv)
theorem begin_rd (c : Cfg) (x : St) (ok oa ob oc : Int) (od : Bool) (oe of tv : Int) : (beginS c x ok oa ob oc od oe of tv).rd = [] := by
 have un : ∀ (x : St) b r l, (jl x b r l).rd = x.rd := fun x b r l => by unfold jl; split <;> rfl
 have tk : ∀ x : St, (tkS x).rd = x.rd := fun x => by unfold tkS; split <;> rfl
 have bo : ∀ x : St, (bodyS x).rd = x.rd := fun x => by unfold bodyS; split; rfl; split; rfl; split; rfl; exact tk x
 have en : ∀ x : St, (enterS x).rd = x.rd := fun x => by unfold enterS; split; exact bo x; rfl
 have key : ∀ x : St, (startS c x).rd = x.rd := fun x => by
  unfold startS
  split; exact un _ _ _ _
  split; exact un _ _ _ _
  split; exact un _ _ _ _
  split; rfl
  split; exact un _ _ _ _
  split
  ·split; exact en x; rfl
  split; exact en x
  rfl
 exact key _
theorem hStart {S : Nat → Prop} {w : World} {g : HG} {c : Cfg} {R : HR} {H : HD} (h : HA S w g c R H) (hf : c.Wf) (hn8 : R.rs.length ≤ 8) (i : Nat) (hi : i < R.rs.length) (hi' : i < H.ws.length) (bg : Nat) (hbg : H.ws[i].bg = bg) (hpl : bg < H.ws[i].prog.length) (ht : ∀ i (q : i < H.ws.length), H.ws[i].told.length ≤ 1000) (hx : Few 900 H.ws[i].st) (htv : 0 ≤ fH H.ws H.ws[i].prog[bg] ∧ fH H.ws H.ws[i].prog[bg] < 18446744073709551616) (hp9 : H.ws[i].prog.length ≤ 1000) (hn : R.es.length ≤ 90000) :
  Calls Tryz.prog 62 #[.pointer (some ⟨g.h, 0, none⟩), .int .i64 (i : Int), .pointer (some ⟨g.w, 36 * i, none⟩)] w fun e w' => e = .returned (.tuple #[]) ∧ ∃ R', HP S g c R w R' (startF c i H.ws[i] H.ws[i].prog[bg] H) w' := by
 have HH := Lib.hid h
 have lh0 := h.mu.box.lt
 have lw0 := h.mu.row.lt
 have A0 := h.ls.wk i hi hi'
 obtain ⟨q, hq⟩ : ∃ q, q = 36 * i := ⟨_, rfl⟩
 obtain ⟨r, hr⟩ : ∃ r, r = R.rs[i] := ⟨_, rfl⟩
 obtain ⟨od, hod⟩ : ∃ o, o = H.ws[i].prog[bg] := ⟨_, rfl⟩
 have ebg : r.bg = (bg : Int) := by rw [hr, A0.bg, hbg]
 obtain ⟨pb, off, hplt, hpa, hpn, hpc⟩ : ∃ pb off, pb < w.heap.size ∧ r.pg.ad = some ⟨pb, off, none⟩ ∧ r.pg.len = H.ws[i].prog.length ∧ ∀ w' : World, Agr (fun b => S b ∧ ¬ dz g R b) w w' → w'.rangeAt pb (off + bg * 7) (oC od).toList := by
  have P := A0.pg
  rw [← hr] at P
  obtain ⟨ad, cap, he, h1, h2, h3⟩ := P.1
  simp only [Sl.v, Value.slice.injEq] at he
  rcases h3 with h3 | ⟨pb, off, h4, hlt, hc⟩
  ·rw [h3] at hpl; simp at hpl
  ·refine ⟨pb, off, hlt, he.1.trans h4, he.2.1, fun w' ag j v hv => ?_⟩
   rcases P.2 with h5 | h5
   ·rw [h5] at hpl; simp at hpl
   ·have e := ag.2 pb hlt (h5 _ (he.1.trans h4))
    rw [World.cell?_of_block e]
    rw [hod] at hv
    have := hc bg hpl j v hv
    rw [← this]
 obtain ⟨ob, hob⟩ : ∃ b, b = w.drew.heap.size := ⟨_, rfl⟩
 have HR0 : RowKit.Hid (r = R.rs[i]) := Lib.hid hr
 have HQ := Lib.hid hq
 have HROW : RowKit.Hid (∀ (w' : World), Bk w' g.w (wsC R.rs) WTy → ∀ j, j < 36 → w'.cell? ⟨g.w, q + j, none⟩ = (wkC r)[j]?) := Lib.hid (fun w' B j hj => by
  rw [B.cells, hq, hr, jw R.rs i j hi hj])
 have hz : Below w.heap.size w w.drew := Below.drew (Below.refl _ _)
 have h0 := h.keep hz
 have hw0 := h0.mu.row
 have hp0 := hpc w.drew (Agr.below hz)
 have HOD := Lib.hid hod
 rw [← hq]
 clear A0 hq hr hod
 go_enter Tryz.func62, Tryz.ntmps62
 go_upto_region 0 with fail
 refine wp_region_held_drew (S := fun w' => Bk w' g.w (wsC R.rs) WTy ∧ w'.rangeAt pb (off + bg * 7) (oC od).toList) ah ⟨hw0, hp0⟩ (fun hHeld => ?_)
 generalize w.drew = z0 at *
 have H0 := Lib.hid h0
 have HHZ := Lib.hid hz
 clear h0 hz hw0 hp0
 obtain ⟨z1, hz1⟩ : ∃ u, u = z0.alloc (.cells (oC OpD.zero) OTy) := ⟨_, rfl⟩
 have B1 : Below z0.heap.size z0 z1 := qa7b
 have X1 : Bk z1 ob (oC OpD.zero) OTy := by rw [hz1, hob]; exact Bk.new _ _ _
 have hplt1 : pb < z0.heap.size := Nat.lt_of_lt_of_le hplt HHZ.out.size
 have hobe : w.heap.size ≤ ob := by rw [hob]; exact HHZ.out.size
 have HX1 := Lib.hid X1
 have HB1 := Lib.hid B1
 have HZ1 := Lib.hid hz1
 have HOB := Lib.hid hob
 obtain ⟨z2, hz2⟩ : ∃ u, u = z1.setRow ob (oC od) := ⟨_, rfl⟩
 have HZ2 := Lib.hid hz2
 have HX2 : RowKit.Hid (Bk z2 ob (oC od) OTy) := Lib.hid (by rw [hz2]; exact X1.setRow _)
 have HB2 : RowKit.Hid (Below w.heap.size w z2) := Lib.hid (by rw [hz2]; exact below_setRow (HHZ.out.trans (B1.mono HHZ.out.size)) hobe _)
 have HW2 : RowKit.Hid (Bk z2 g.w (wsC R.rs) WTy) := Lib.hid (HH.out.mu.row.keep HB2.out)
 clear X1 B1 hz1 hob hz2
 refine jT 0 (.pointer (some ⟨g.w, q, none⟩)) rfl hHeld ?_
 try simp only [Act.put, jP]
 refine jT 1 (.pointer (some ⟨g.w, q, none⟩)) rfl hHeld ?_
 try simp only [Act.put, jP]
 refine jT 2 (.pointer (some ⟨g.w, q, none⟩)) rfl hHeld ?_
 try simp only [Act.put, jP]
 refine jY 3 (.slice (some ⟨pb, off, none⟩) r.pg.len r.pg.cap) rfl (Or.inl ⟨by rfl, fun w' hSw => by have xx : w'.cell? ⟨g.w, q, none⟩ = some (.slice (some ⟨pb, off, none⟩) r.pg.len r.pg.cap) := (by have this := HROW.out _ hSw.1 0 aj; rw [Nat.add_zero] at this; rw [this]; show some (Value.slice r.pg.ad r.pg.len r.pg.cap) = _; rw [hpa]); go_simp⟩) hHeld ?_
 try simp only [Act.put, jP]
 refine jT 4 (.pointer (some ⟨g.w, q, none⟩)) rfl hHeld ?_
 try simp only [Act.put, jP]
 refine jT 5 (.pointer (some ⟨g.w, q, none⟩)) rfl hHeld ?_
 try simp only [Act.put, jP]
 refine jT 6 (.pointer (some ⟨g.w, q + 1, none⟩)) rfl hHeld ?_
 try simp only [Act.put, jP]
 refine jY 7 (.int .i64 r.bg) rfl (Or.inl ⟨by rfl, fun w' hSw => by have xx : w'.cell? ⟨g.w, q + 1, none⟩ = some (.int .i64 r.bg) := HROW.out _ hSw.1 1 aj; go_simp⟩) hHeld ?_
 try simp only [Act.put, jP]
 refine jT 8 (.pointer (some ⟨pb, off + bg * 7, none⟩)) rfl hHeld ?_
 try simp only [Act.put, jP]
 refine jY 9 (.agg (oC od)) rfl (yieldsIf_load_mid rfl OTy _ rfl pb (off + bg * 7) rfl (oC od).toList _ (fun w' hw' => hw'.2) Tryz.underlying30 rfl ah) hHeld ?_
 try simp only [Act.put, jP]
 refine jR [10] ?_
 refine jC rfl (fun K hK => ?_) jN
 refine step_alloc_op rfl rfl ?_
 rw [← HZ1.out, ← HOB.out]
 refine hK.out _ _ ⟨hHeld.1.keep HB1.out, fun j v hv => (World.cell?_of_block (HB1.out.block pb hplt1)).trans (hHeld.2 j v hv)⟩ (fun hHeld => ?_)
 clear hK K
 try simp only [Act.put, jP]
 refine jR [11] ?_
 refine jC rfl (fun K hK => ?_) jN
 refine dh rfl OTy _ _ rfl ob (oC od) rfl rfl _ _ (by exact HX1.out) ah ah ah ?_
 rw [← HZ2.out]
 refine hK.out _ _ ⟨HW2.out, fun j v hv => by rw [HZ2.out]; exact (World.cell?_of_block (setRow_other z1 ob pb _ aj)).trans (hHeld.2 j v hv)⟩ (fun hHeld => ?_)
 clear hK K
 try simp only [Act.put, jP]
 refine wpAnyH_done ah ?_ _
 clear hHeld
 have x1 : z2.cell? ⟨g.w, q + 1, none⟩ = some (.int .i64 (bg : Int)) := (HROW.out z2 HW2.out 1 aj).trans (by rw [← ebg]; rfl)
 have f1 := HW2.out.frozen
 have lw2 := HW2.out.lt
 have hb1' : IntKind.i64.wrap ((bg : Int) + 1) = (bg : Int) + 1 := IntWalk.i64_in _ aj
 go_upto_region 2 with fail
 obtain ⟨R3, hR3⟩ : ∃ y : HR, y = { R with rs := R.rs.set i { R.rs[i] with bg := ((bg + 1 : Nat) : Int) } } := ⟨_, rfl⟩
 obtain ⟨H3, hH3⟩ : ∃ y : HD, y = { H with ws := H.ws.set i { H.ws[i] with bg := bg + 1 } } := ⟨_, rfl⟩
 obtain ⟨z3, hz3⟩ : ∃ u, u = z2.setCell ⟨g.w, q + 1, none⟩ (.int .i64 ((bg : Int) + 1)) := ⟨_, rfl⟩
 have P2 := (HP.refl HH.out).keep HB2.out
 have P3 : HP S g c R w R3 H3 z3 := by
  rw [hR3, hH3, hz3, HQ.out]
  exact P2.trans (HP.bg P2.ha hi hi' (bg + 1))
 have X3 : Bk z3 ob (oC od) OTy := by rw [hz3]; exact HX2.out.aA (a := ⟨g.w, q + 1, none⟩) (by show ob ≠ g.w; omega) _
 have hi3 : i < R3.rs.length := by rw [hR3]; simpa using hi
 have er3 : R3.rs[i]'hi3 = { r with bg := ((bg + 1 : Nat) : Int) } := by simp only [hR3, HR0.out, List.getElem_set_self]
 rw [← hz3]
 have hn3 : R3.rs.length ≤ 8 := by rw [hR3]; simpa using hn8
 have hz4 : Below z3.heap.size z3 z3.drew := Below.drew (Below.refl _ _)
 have P4 := P3.keep hz4
 have X4 := X3.keep hz4
 have HSA : RowKit.Hid (∀ w', HP S g c R w R3 H3 w' → Bk w' ob (oC od) OTy → w'.cell? ⟨g.h, 0, none⟩ = some (.pointer (some ⟨g.m, 0, none⟩)) ∧ w'.rangeAt g.m 0 (ccW c).toList ∧ Bk w' ob (oC od) OTy) := Lib.hid (fun w' P X => ⟨by rw [P.ha.mu.box.cells]; rfl, cfg_range P.ha.mu.mem, X⟩)
 have HRS : RowKit.Hid (∀ w', HP S g c R w R3 H3 w' → w'.rangeAt g.w (q + 2) (wc r.s).toList) := Lib.hid (fun w' P => by have := ws_rangeB P.ha.mu.row hi3; rw [er3] at this; rw [HQ.out]; exact this)
 refine wp_region_held_drew (S := fun w' => w'.cell? ⟨g.h, 0, none⟩ = some (.pointer (some ⟨g.m, 0, none⟩)) ∧ w'.rangeAt g.m 0 (ccW c).toList ∧ Bk w' ob (oC od) OTy) ah (HSA.out _ P4 X4) (fun hHeld => ?_)
 have HTK0 := hTicket P4.ha hn3 (fun j hj => by
  have hj2 : j < H.ws.length := by rw [hH3] at hj; simpa using hj
  have e : (H3.ws[j]).told = (H.ws[j]).told := by
   simp only [hH3, List.getElem_set]
   by_cases ij : i = j
   ·subst ij; rw [if_pos rfl]
   ·rw [if_neg ij]
  rw [e]; exact ht j hj2) od
 have etk : fH H3.ws od = fH H.ws od := by rw [hH3]; exact tickF_set H.ws i hi' { H.ws[i] with bg := bg + 1 } rfl od
 rw [etk] at HTK0
 generalize z3.drew = z4 at *
 have HTK := Lib.hid HTK0
 have HR3 := Lib.hid hR3
 have HH3 := Lib.hid hH3
 have HER3 := Lib.hid er3
 have HP4 := Lib.hid P4
 have HX4 := Lib.hid X4
 clear HTK0 P4 X4 hz4 P2 P3 X3 x1 f1 hR3 hH3 er3 hz3
 refine jT 0 (.pointer (some ⟨g.w, q, none⟩)) rfl hHeld ?_
 try simp only [Act.put, jP]
 refine jT 1 (.pointer (some ⟨g.h, 0, none⟩)) rfl hHeld ?_
 try simp only [Act.put, jP]
 refine jT 2 (.pointer (some ⟨g.h, 0, none⟩)) rfl hHeld ?_
 try simp only [Act.put, jP]
 refine jT 3 (.pointer (some ⟨g.h, 0, none⟩)) rfl hHeld ?_
 try simp only [Act.put, jP]
 refine jY 4 (.pointer (some ⟨g.m, 0, none⟩)) rfl (Or.inl ⟨by rfl, fun w' hSw => by have xx := hSw.1; go_simp⟩) hHeld ?_
 try simp only [Act.put, jP]
 refine jT 5 (.pointer (some ⟨g.m, 0, none⟩)) rfl hHeld ?_
 try simp only [Act.put, jP]
 refine jT 6 (.pointer (some ⟨g.m, 0, none⟩)) rfl hHeld ?_
 try simp only [Act.put, jP]
 refine jT 7 (.pointer (some ⟨g.m, 0, none⟩)) rfl hHeld ?_
 try simp only [Act.put, jP]
 refine jY 8 (.agg (ccW c)) rfl (yieldsIf_load_mid rfl 24 _ rfl g.m (0) rfl (ccW c).toList _ (fun w' hw' => hw'.2.1) Tryz.underlying24 rfl ah) hHeld ?_
 try simp only [Act.put, jP]
 refine jT 9 (.pointer (some ⟨g.w, q, none⟩)) rfl hHeld ?_
 try simp only [Act.put, jP]
 refine jT 10 (.pointer (some ⟨g.w, q, none⟩)) rfl hHeld ?_
 try simp only [Act.put, jP]
 refine jT 11 (.pointer (some ⟨g.w, q + 2, none⟩)) rfl hHeld ?_
 try simp only [Act.put, jP]
 refine jY 13 (.agg (oC od)) rfl (bV rfl OTy _ rfl ob rfl (oC od) OTy _ (fun w' hw' => hw'.2.2) Tryz.underlying30 rfl ah) hHeld ?_
 try simp only [Act.put, jP]
 refine jT 14 (.pointer (some ⟨g.h, 0, none⟩)) rfl hHeld ?_
 try simp only [Act.put, jP]
 refine jY 15 (.agg (oC od)) rfl (bV rfl OTy _ rfl ob rfl (oC od) OTy _ (fun w' hw' => hw'.2.2) Tryz.underlying30 rfl ah) hHeld ?_
 try simp only [Act.put, jP]
 refine jR [12, 16] ?_
 refine jC rfl (fun K hK => ?_) (jC rfl (fun K hK => ?_) jN)
 refine step_load_mid rfl 46 _ rfl g.w (q + 2) rfl (wc r.s).toList _ (HRS.out _ HP4.out) Tryz.underlying46 rfl ah ?_
 refine hK.out _ _ hHeld (fun hHeld => ?_)
 clear hK K
 try simp only [Act.put, jP]
 refine jR [16] ?_
 refine jC rfl (fun K hK => ?_) jN
 go_simp
 refine HTK.out.mono ?_
 rintro e z5 ⟨rfl, hb5⟩
 have P5 := HP4.out.keep hb5
 have X5 := HX4.out.keep hb5
 have HP5 := Lib.hid P5
 have HX5 := Lib.hid X5
 have AL : aM (fun b => (S b ∧ ¬ dz g R b) ∨ w.heap.size ≤ b) z5 r.s H.ws[i].st := qa1n
 have HBE := Lib.hid (fBegin c hf (P := fun b => (S b ∧ ¬ dz g R b) ∨ w.heap.size ≤ b) (fun b q => .inr (by have := P5.fr.size; omega)) AL hx od.k od.t od.x od.s od.u od.b od.n (fH H.ws od) (by rw [HOD.out]; exact htv))
 refine hK.out _ _ (HSA.out _ P5 X5) (fun hHeld => ?_)
 clear hK K P5 X5 hb5 AL
 rotate_left
 go_simp
 refine HTK.out.mono ?_
 rintro e z5 ⟨rfl, hb5⟩
 have P5 := HP4.out.keep hb5
 have X5 := HX4.out.keep hb5
 have HP5 := Lib.hid P5
 have HX5 := Lib.hid X5
 have AL : aM (fun b => (S b ∧ ¬ dz g R b) ∨ w.heap.size ≤ b) z5 r.s H.ws[i].st := qa1n
 have HBE := Lib.hid (fBegin c hf (P := fun b => (S b ∧ ¬ dz g R b) ∨ w.heap.size ≤ b) (fun b q => .inr (by have := P5.fr.size; omega)) AL hx od.k od.t od.x od.s od.u od.b od.n (fH H.ws od) (by rw [HOD.out]; exact htv))
 refine hK.out _ _ (HSA.out _ P5 X5) (fun hHeld => ?_)
 clear hK K P5 X5 hb5 AL
 try simp only [Act.put, jP]
 refine jR [12] ?_
 refine jC rfl (fun K hK => ?_) jN
 refine step_load_mid rfl 46 _ rfl g.w (q + 2) rfl (wc r.s).toList _ (HRS.out _ HP5.out) Tryz.underlying46 rfl ah ?_
 refine hK.out _ _ hHeld (fun hHeld => ?_)
 clear hK K
 rotate_left
 all_goals
  try simp only [Act.put, jP]
  refine jR [17] ?_
  refine jC rfl (fun K hK => ?_) jN
  go_simp
  refine HBE.out.mono ?_
  rintro e z6 ⟨s6, rfl, A6, hb6⟩
  have P6 := HP5.out.keep hb6
  have X6 := HX5.out.keep hb6
  have HP6 := Lib.hid P6
  have HX6 := Lib.hid X6
  have HA6 := Lib.hid A6
  refine hK.out _ _ (HSA.out _ P6 X6) (fun hHeld => ?_)
  clear hK K P6 X6 A6 hb6
  try simp only [Act.put, jP]
  refine jT 18 (.pointer (some ⟨g.w, q, none⟩)) rfl hHeld ?_
  try simp only [Act.put, jP]
  refine jT 19 (.pointer (some ⟨g.w, q + 2, none⟩)) rfl hHeld ?_
  try simp only [Act.put, jP]
  refine jR [20] ?_
  refine jC rfl (fun K hK => ?_) jN
  refine step_subB rfl 46 _ _ rfl g.w (q + 2) (wc s6) rfl rfl WTy (wsC R3.rs) (wsC (R3.rs.set i { R3.rs[i] with s := s6 })) HP6.out.ha.mu.row ah qa7e ah (by rw [HQ.out]; exact wsC_st R3.rs i s6 hi3) ?_
  have SB := HSA.out _ HP6.out HX6.out
  refine hK.out _ _ ⟨(World.cell?_of_block (setRow_other _ g.w g.h _ (fun e => HH.out.mu.ne_h.2.2.1 e.symm))).trans SB.1, fun j v hv => (World.cell?_of_block (setRow_other _ g.w g.m _ (fun e => HH.out.mu.ne_w.1 e))).trans (SB.2.1 j v hv), HX6.out.aJ aj _⟩ (fun hHeld => ?_)
  clear hK K SB
  try simp only [Act.put, jP]
  refine wpAnyH_done ah ?_ _
  clear hHeld
  obtain ⟨x6, hx6⟩ : ∃ x, x = beginS c H.ws[i].st od.k od.t od.x od.s od.u od.b od.n (fH H.ws od) := ⟨_, rfl⟩
  have hi3' : i < H3.ws.length := by rw [HH3.out]; simpa using hi'
  have hA6 : aM (fun b => SS S w z6 b ∧ ¬ dz g R3 b) z6 s6 x6 := by
   rw [hx6]
   refine HA6.out.mono (fun b' h1 h2 => ?_)
   have mb : dz g R3 b' → dz g R b' := fun m => by
    rw [HR3.out] at m
    exact (mutB_set (g := g) (R := R) i { R.rs[i] with bg := ((bg + 1 : Nat) : Int) } hi rfl b').1 m
   rcases h2 with h2 | h2
   ·exact ⟨.inl h2.1, fun m => h2.2 (mb m)⟩
   ·exact ⟨.inr ⟨h2, h1⟩, fun m => by have := HH.out.lt _ (HH.out.sub _ (mb m)); omega⟩
  obtain ⟨R4, hR4⟩ : ∃ y : HR, y = { R3 with rs := R3.rs.set i { R3.rs[i] with s := s6 } } := ⟨_, rfl⟩
  obtain ⟨d1, hd1⟩ : ∃ y : WkD, y = { H.ws[i] with bg := bg + 1, st := x6 } := ⟨_, rfl⟩
  obtain ⟨H4, hH4⟩ : ∃ y : HD, y = { H with ws := H.ws.set i d1 } := ⟨_, rfl⟩
  obtain ⟨z7, hz7⟩ : ∃ u, u = z6.setRow g.w (wsC (R3.rs.set i { R3.rs[i] with s := s6 })) := ⟨_, rfl⟩
  have P7 : HP S g c R w R4 H4 z7 := by
   have q := HP6.out.trans (HP.st HP6.out.ha hi3 hi3' s6 x6 hA6)
   rw [hR4, hz7]
   have e : H4 = { H3 with ws := H3.ws.set i { H3.ws[i] with st := x6 } } := by
    rw [hH4, hd1]
    simp only [HH3.out, List.getElem_set_self, List.set_set]
   rw [e]
   exact q
  have hi4 : i < R4.rs.length := by rw [hR4]; simpa using hi3
  have hi4' : i < H4.ws.length := by rw [hH4]; simpa using hi'
  have er4 : R4.rs[i] = { r with bg := ((bg + 1 : Nat) : Int), s := s6 } := by simp only [hR4, List.getElem_set_self, HER3.out]
  have ed4 : H4.ws[i] = d1 := by simp only [hH4, List.getElem_set_self]
  have A4 := P7.ha.ls.wk i hi4 hi4'
  have esp : s6.p = x6.p := by have := A4.st.p; rw [er4, ed4, hd1] at this; exact this
  have etk : H4.tk = H.tk := by rw [hH4]
  have ees : R4.es = R.es := by rw [hR4]; show R3.es = R.es; rw [HR3.out]
  have HEV := Lib.hid (hEvent P7.ha i hi4 1)
  obtain ⟨e0, he0⟩ : ∃ e, e = evE H4.tk i R4.rs[i].bg R4.rs[i].s.p 1 := ⟨_, rfl⟩
  rw [← he0] at HEV
  have HE0 : RowKit.Hid (e0 = evE H.tk i d1.bg d1.st.p 1) := Lib.hid (by rw [he0, er4, etk, hd1]; show evE _ _ ((bg + 1 : Nat) : Int) s6.p 1 = _; rw [esp])
  have HP7 := Lib.hid P7
  have HED4 := Lib.hid ed4
  have HER4 := Lib.hid er4
  have HSP := Lib.hid esp
  have HET4 := Lib.hid etk
  have HD1 := Lib.hid hd1
  have HX6d := Lib.hid hx6
  have HH4 := Lib.hid hH4
  have hes4 : R4.es.length ≤ 90000 := by rw [ees]; exact hn
  rw [← hz7]
  clear P7 hz7 hR4 hH4 er4 ed4 A4 esp etk ees he0 hA6 hd1 hx6
  go_wp2_with (first | (refine dJ rfl rfl ?_))
  refine HEV.out.mono ?_
  rintro e w1 ⟨rfl, hb1⟩
  have sz1 := hb1.size
  have sz0 : w.heap.size ≤ z7.heap.size := HP7.out.fr.size
  obtain ⟨eb, heb⟩ : ∃ q, q = w1.heap.size := ⟨_, rfl⟩
  obtain ⟨w2, hw2⟩ : ∃ u, u = w1.alloc (.cells (ec evZ) ETy) := ⟨_, rfl⟩
  have Z2 : Bk w2 eb (ec evZ) ETy := qa78
  have b2 : Below z7.heap.size z7 w2 := qa79
  obtain ⟨w3, hw3⟩ : ∃ u, u = w2.setRow eb (ec e0) := ⟨_, rfl⟩
  have Z3 : Bk w3 eb (ec e0) ETy := qa7a
  have b3 : Below z7.heap.size z7 w3 := qa7y
  have hew : z7.heap.size ≤ eb := by rw [heb]; exact sz1
  have lgh : g.h < z7.heap.size := HP7.out.ha.mu.box.lt
  have heh : eb ≠ g.h := aj
  obtain ⟨e1, he1⟩ : ∃ e : Ev, e = { e0 with rt := 0 } := ⟨_, rfl⟩
  obtain ⟨w5, hw5⟩ : ∃ u, u = w3.setCell ⟨eb, 12, none⟩ (.int .i64 0) := ⟨_, rfl⟩
  have Z5 : Bk w5 eb (ec e1) ETy := by rw [hw5, he1]; exact Z3.setCell 12 _
  have b5 : Below z7.heap.size z7 w5 := by rw [hw5]; exact b3.setCell (p := ⟨eb, 12, none⟩) (by show z7.heap.size ≤ eb; omega) _
  have x3' : w3.cell? ⟨eb, 12, none⟩ = some (.int .i64 e0.rt) := by rw [Z3.cells]; rfl
  have f3 := Z3.frozen
  have l3 := Z3.lt
  have HZ2e := Lib.hid Z2
  have HZ3e := Lib.hid Z3
  have HZ5 := Lib.hid Z5
  have HW2x := Lib.hid hw2
  have HW3 := Lib.hid hw3
  have HW5 := Lib.hid hw5
  have HEB := Lib.hid heb
  have HE1 := Lib.hid he1
  have HB5 := Lib.hid b5
  clear hw2 hw3 hw5 heb he1 Z2 Z3 Z5 b2 b3 b5
  go_upto_region 5 with (first | (refine dJ rfl rfl ?_; rw [← HW2x.out, ← HEB.out]) | (refine wpList_store_row rfl ETy _ _ rfl eb (ec e0) rfl rfl _ _ (by exact HZ2e.out) ah ah ah ?_; rw [← HW3.out]))
  try rw [← HW5.out]
  clear x3' f3 l3
  have hz5 : Below w5.heap.size w5 w5.drew := Below.drew (Below.refl _ _)
  refine wp_region_held_drew (S := fun w' => Bk w' eb (ec e1) ETy) ah (HZ5.out.keep hz5) (fun hHeld => ?_)
  have b16 := HB5.out.trans (hz5.mono HB5.out.size)
  have Z16 := HZ5.out.keep hz5
  generalize w5.drew = z16 at *
  have H16 := Lib.hid (HP7.out.ha.keep b16)
  have HB16 := Lib.hid b16
  have HZ16 := Lib.hid Z16
  have y1 : z16.cell? ⟨g.h, 2, none⟩ = some (.slice R4.ev.ad R4.ev.len R4.ev.cap) := by rw [H16.out.mu.box.cells]; rfl
  have y2 : (z16.alloc (.cells (ec e1) ETy)).cell? ⟨g.h, 2, none⟩ = some (.slice R4.ev.ad R4.ev.len R4.ev.cap) := by rw [(H16.out.mu.box.alloc _).cells]; rfl
  obtain ⟨gn, hgn⟩ : ∃ q, q = z16.heap.size := ⟨_, rfl⟩
  obtain ⟨z17, hz17⟩ : ∃ q, q = z16.alloc (.cells (ec e1) ETy) := ⟨_, rfl⟩
  have HB17 : RowKit.Hid (Below z16.heap.size z16 z17) := Lib.hid (by rw [hz17]; exact (Below.refl _ _).alloc (Nat.le_refl _) _)
  have HN1 : RowKit.Hid (Bk z17 gn (ec e1) ETy) := Lib.hid (by rw [hz17, hgn]; exact Bk.new _ _ _)
  have HZ1x := Lib.hid hz17
  have HGN := Lib.hid hgn
  rw [← hz17] at y2
  clear b16 Z16 hz17 hgn hz5
  refine jT 0 (.pointer (some ⟨g.h, 0, none⟩)) rfl hHeld ?_
  try simp only [Act.put, jP]
  refine jT 1 (.pointer (some ⟨g.h, 0, none⟩)) rfl hHeld ?_
  try simp only [Act.put, jP]
  refine jT 2 (.pointer (some ⟨g.h, 0, none⟩)) rfl hHeld ?_
  try simp only [Act.put, jP]
  refine jT 3 (.pointer (some ⟨g.h, 2, none⟩)) rfl hHeld ?_
  try simp only [Act.put, jP]
  refine jY 5 (.agg (ec e1)) rfl (bV rfl ETy _ rfl eb rfl (ec e1) ETy _ (fun w' hw' => hw') Tryz.underlying70 rfl ah) hHeld ?_
  try simp only [Act.put, jP]
  refine jR [4, 6] ?_
  refine jC rfl (fun K hK => ?_) (jC rfl (fun K hK => ?_) jN)
  go_simp
  refine hK.out _ _ hHeld (fun hHeld => ?_)
  clear hK K
  try simp only [Act.put, jP]
  refine jR [6] ?_
  refine jC rfl (fun K hK => ?_) jN
  refine dA rfl _ rfl e1 rfl ?_
  rw [← HZ1x.out, ← HGN.out]
  refine hK.out _ _ (HZ16.out.keep HB17.out) (fun hHeld => ?_)
  rotate_left
  refine dA rfl _ rfl e1 rfl ?_
  rw [← HZ1x.out, ← HGN.out]
  refine hK.out _ _ (HZ16.out.keep HB17.out) (fun hHeld => ?_)
  clear hK K
  try simp only [Act.put, jP]
  refine jR [4] ?_
  refine jC rfl (fun K hK => ?_) jN
  go_simp
  refine hK.out _ _ hHeld (fun hHeld => ?_)
  rotate_left
  all_goals
   clear hK K
   try simp only [Act.put, jP]
   refine jR [7] ?_
   refine jC rfl (fun K hK => ?_) jN
   have H7 := H16.out.keep HB17.out
   refine step_append elemEv rfl _ _ rfl 0 R4.ev.v R4.es.length (evC R4.es) rfl H7.mu.ev gn 1 1 (ec e1).toList rfl jy (fun j hj => by rw [HN1.out.cells]; simp) (ec_one e1) aj (Nat.zero_le _) ?_
   intro v' z18 O2 G2 hy2
   obtain ⟨⟨a7, n7, c7⟩, rfl, hyl⟩ := gI O2
   obtain rfl : n7 = R4.es.length + 1 := hyl
   have lz1 := (HZ16.out.keep HB17.out).lt
   have hne2 : some eb ≠ R4.ev.v.ownBlock := fun e => by
    have := HP7.out.ha.lt eb (HP7.out.ha.sub eb (.inr (.inr (.inr (.inr (.inl (blk_iff.2 e.symm)))))))
    omega
   have Z18 : Bk z18 eb (ec e1) ETy := (G2.block eb lz1 hne2).trans (HZ16.out.keep HB17.out)
   have X18 : Bk z18 g.h (hC g R4 H4.tk) HTy := eH H7.mu.box (Agr.grown (P := fun b => b = g.h) G2 (fun b hb e => H7.mu.ne_h.2.2.2.1 b (blk_iff.2 e.symm) hb)) rfl
   have HO2 := Lib.hid O2
   have HG2 := Lib.hid G2
   have HY2 := Lib.hid hy2
   have HZ18 := Lib.hid Z18
   have c2 : z18.cell? ⟨g.h, 2, none⟩ = some (.slice R4.ev.ad R4.ev.len R4.ev.cap) := by rw [X18.cells]; rfl
   have f2 := X18.frozen
   refine hK.out _ _ Z18 (fun hHeld => ?_)
   clear hK K Z18 X18 O2 G2 hy2 H7
   try simp only [Act.put, jP]
   refine jT 8 (.pointer (some ⟨g.h, 0, none⟩)) rfl hHeld ?_
   try simp only [Act.put, jP]
   refine jT 9 (.pointer (some ⟨g.h, 2, none⟩)) rfl hHeld ?_
   try simp only [Act.put, jP]
   refine jR [10] ?_
   refine jC rfl (fun K hK => ?_) jN
   go_simp
   refine hK.out _ _ (HZ18.out.aA (a := ⟨g.h, 2, none⟩) heh (.slice a7 (R4.es.length + 1) c7)) (fun hHeld => ?_)
   clear hK K
   try simp only [Act.put, jP]
   refine wpAnyH_done ah ?_ _
   clear hHeld c2 f2 y1 y2
   have EV : ∀ P : Nat → Prop, EvA P z17 e1 ⟨e1, []⟩ := fun P => qa1o
   have E := HP7.out.ha.evApp e1 ⟨e1, []⟩ (y := ⟨a7, R4.es.length + 1, c7⟩) (HB16.out.trans (HB17.out.mono HB16.out.size)) (EV _) HO2.out HG2.out HY2.out
   obtain ⟨z8, hz8⟩ : ∃ u, u = z18.setCell ⟨g.h, 2, none⟩ (.slice a7 (R4.es.length + 1) c7) := ⟨_, rfl⟩
   obtain ⟨R5, hR5⟩ : ∃ y : HR, y = { R4 with ev := ⟨a7, R4.es.length + 1, c7⟩, es := R4.es ++ [e1] } := ⟨_, rfl⟩
   obtain ⟨H5, hH5⟩ : ∃ y : HD, y = { H4 with ev := H4.ev ++ [⟨e1, []⟩] } := ⟨_, rfl⟩
   have P8 : HP S g c R w R5 H5 z8 := by rw [hR5, hH5, hz8]; exact HP7.out.trans E
   have hi5 : i < R5.rs.length := by rw [hR5]; exact hi4
   have hi5' : i < H5.ws.length := by rw [hH5]; exact hi4'
   have er5 : R5.rs[i] = { r with bg := ((bg + 1 : Nat) : Int), s := s6 } := by simp only [hR5]; exact HER4.out
   have ed5 : H5.ws[i] = d1 := by simp only [hH5]; exact HED4.out
   have es5 : R5.es.length = R4.es.length + 1 := by rw [hR5]; simp
   have et5 : H5.tk = H.tk := by rw [hH5]; exact HET4.out
   have HSF : RowKit.Hid (startF c i H.ws[i] od H = (if s6.p.ln = 0 then endF H.tk i d1 { H5 with ev := H5.ev ++ [⟨evE H.tk i d1.bg d1.st.p 3, []⟩] } else H5)) := Lib.hid (by
    rw [hH5, HE1.out, HE0.out, HH4.out, HSP.out, HD1.out, HX6d.out, ← hbg]
    rfl)
   have HRG5 : RowKit.Hid (∀ w', Bk w' g.w (wsC R5.rs) WTy → w'.rangeAt g.w (q + 2) (wc s6).toList) := Lib.hid (fun w' B => by
    have := ws_rangeB B hi5
    rw [er5] at this
    rw [HQ.out]
    exact this)
   have HP8 := Lib.hid P8
   have HER5 := Lib.hid er5
   have HED5 := Lib.hid ed5
   have HES5 := Lib.hid es5
   have HET5 := Lib.hid et5
   have HRG8 : RowKit.Hid (z8.rangeAt g.w (q + 2) (wc s6).toList) := Lib.hid (HRG5.out _ P8.ha.mu.row)
   rw [← hz8]
   clear EV E hz8 hR5 hH5 P8 er5 ed5 es5 et5
   go_wp2_with (first | (refine wpList_load_mid rfl 46 _ rfl g.w (q + 2) rfl (wc s6).toList _ (by exact HRG8.out) Tryz.underlying46 rfl ah ?_))
   by_cases h0 : s6.p.ln = 0
   ·refine (jS s6 (b := true) qa60 _).mono ?_
    rintro e zf ⟨rfl, hbf⟩
    have P9 := HP8.out.keep hbf
    have HP9 := Lib.hid P9
    clear P9
    go_upto_region 7 with fail
    have hz11 : Below zf.heap.size zf zf.drew := Below.drew (Below.refl _ _)
    refine wp_region_held_drew (S := fun _ => True) ah trivial (fun hHeld => ?_)
    have HB11 := Lib.hid hz11
    clear hz11
    generalize zf.drew = z11 at *
    have y11 : z11.cell? ⟨g.h, 2, none⟩ = some (.slice R5.ev.ad R5.ev.len R5.ev.cap) := by rw [(HP9.out.keep HB11.out).ha.mu.box.cells]; rfl
    have HEV5 := Lib.hid (hEvent (HP9.out.keep HB11.out).ha i hi5 3)
    obtain ⟨e3, he3⟩ : ∃ e, e = evE H5.tk i R5.rs[i].bg R5.rs[i].s.p 3 := ⟨_, rfl⟩
    rw [← he3] at HEV5
    have HE3 : RowKit.Hid (e3 = evE H.tk i d1.bg d1.st.p 3) := Lib.hid (by rw [he3, HER5.out, HET5.out, HD1.out]; show evE _ _ ((bg + 1 : Nat) : Int) s6.p 3 = _; rw [HSP.out])
    have he3d : e3.rd = aG := by rw [HE3.out]; rfl
    clear he3
    refine jT 0 (.pointer (some ⟨g.h, 0, none⟩)) rfl hHeld ?_
    try simp only [Act.put, jP]
    refine jT 1 (.pointer (some ⟨g.h, 0, none⟩)) rfl hHeld ?_
    try simp only [Act.put, jP]
    refine jT 2 (.pointer (some ⟨g.h, 0, none⟩)) rfl hHeld ?_
    try simp only [Act.put, jP]
    refine jT 3 (.pointer (some ⟨g.h, 2, none⟩)) rfl hHeld ?_
    try simp only [Act.put, jP]
    refine jT 5 (.pointer (some ⟨g.h, 0, none⟩)) rfl hHeld ?_
    try simp only [Act.put, jP]
    refine jT 6 (.int .i64 (i : Int)) rfl hHeld ?_
    try simp only [Act.put, jP]
    refine jR [4, 7] ?_
    refine jC rfl (fun K hK => ?_) (jC rfl (fun K hK => ?_) jN)
    ·go_simp
     refine hK.out _ _ hHeld (fun hHeld => ?_)
     clear hK K
     try simp only [Act.put, jP]
     refine jR [7] ?_
     refine jC rfl (fun K hK => ?_) jN
     go_simp
     refine HEV5.out.mono ?_
     rintro e z12 ⟨rfl, ig⟩
     have HB12 := Lib.hid (HB11.out.trans (ig.mono HB11.out.size))
     have y12 : z12.cell? ⟨g.h, 2, none⟩ = some (.slice R5.ev.ad R5.ev.len R5.ev.cap) := qa7l
     obtain ⟨gn3, hgn3⟩ : ∃ q, q = z12.heap.size := ⟨_, rfl⟩
     obtain ⟨z13, hz13⟩ : ∃ q, q = z12.alloc (.cells (ec e3) ETy) := ⟨_, rfl⟩
     have HB13 : RowKit.Hid (Below zf.heap.size zf z13) := Lib.hid qa7h
     have HN3 : RowKit.Hid (Bk z13 gn3 (ec e3) ETy) := Lib.hid qa7i
     have y13 : z13.cell? ⟨g.h, 2, none⟩ = some (.slice R5.ev.ad R5.ev.len R5.ev.cap) := qa7m
     have HZ13 := Lib.hid hz13
     have HGN3 := Lib.hid hgn3
     clear hz13 hgn3 ig
     refine hK.out _ _ trivial (fun hHeld => ?_)
     clear hK K
     try simp only [Act.put, jP]
     refine jR [8] ?_
     refine jC rfl (fun K hK => ?_) jN
     refine dA rfl _ rfl e3 rfl ?_
     rw [← HZ13.out, ← HGN3.out]
     refine hK.out _ _ trivial (fun hHeld => ?_)
     clear hK K
     try simp only [Act.put, jP]
     refine jR [9] ?_
     refine jC rfl (fun K hK => ?_) jN
     have H7 := (HP9.out.keep HB13.out).ha
     refine step_append elemEv rfl _ _ rfl 0 R5.ev.v R5.es.length (evC R5.es) rfl H7.mu.ev gn3 1 1 (ec e3).toList rfl jy (fun j hj => by rw [HN3.out.cells]; simp) (ec_one e3) (by have := HES5.out; omega) (Nat.zero_le _) ?_
     intro v' z14 O3 G3 hy3
     obtain ⟨⟨a9, n9, c9⟩, rfl, hyl⟩ := gI O3
     obtain rfl : n9 = R5.es.length + 1 := hyl
     have X14 : Bk z14 g.h (hC g R5 H5.tk) HTy := eH H7.mu.box (Agr.grown (P := fun b => b = g.h) G3 (fun b hb e => H7.mu.ne_h.2.2.2.1 b (blk_iff.2 e.symm) hb)) rfl
     have HO3 := Lib.hid O3
     have HG3 := Lib.hid G3
     have HY3 := Lib.hid hy3
     have c14 : z14.cell? ⟨g.h, 2, none⟩ = some (.slice R5.ev.ad R5.ev.len R5.ev.cap) := qa7k
     have f14 := X14.frozen
     refine hK.out _ _ trivial (fun hHeld => ?_)
     clear hK K X14 O3 G3 hy3 H7
     try simp only [Act.put, jP]
     refine jT 10 (.pointer (some ⟨g.h, 0, none⟩)) rfl hHeld ?_
     try simp only [Act.put, jP]
     refine jT 11 (.pointer (some ⟨g.h, 2, none⟩)) rfl hHeld ?_
     try simp only [Act.put, jP]
     refine jR [12] ?_
     refine jC rfl (fun K hK => ?_) jN
     go_simp
     refine hK.out _ _ trivial (fun hHeld => ?_)
     clear hK K
     try simp only [Act.put, jP]
     refine wpAnyH_done ah ?_ _
     clear hHeld c14 f14 y11 y12 y13
     have E7 := HP9.out.ha.evApp e3 ⟨e3, []⟩ (y := ⟨a9, R5.es.length + 1, c9⟩) HB13.out ⟨rfl, by rw [he3d]; exact ⟨Reads.nil _ _, .inl rfl⟩⟩ HO3.out HG3.out HY3.out
     obtain ⟨z15, hz15⟩ : ∃ u, u = z14.setCell ⟨g.h, 2, none⟩ (.slice a9 (R5.es.length + 1) c9) := ⟨_, rfl⟩
     obtain ⟨R6, hR6⟩ : ∃ y : HR, y = { R5 with ev := ⟨a9, R5.es.length + 1, c9⟩, es := R5.es ++ [e3] } := ⟨_, rfl⟩
     obtain ⟨H6, hH6⟩ : ∃ y : HD, y = { H5 with ev := H5.ev ++ [⟨e3, []⟩] } := ⟨_, rfl⟩
     have P10 : HP S g c R w R6 H6 z15 := by rw [hR6, hH6, hz15]; exact HP9.out.trans E7
     have hi6 : i < R6.rs.length := by rw [hR6]; exact hi5
     have hi6' : i < H6.ws.length := by rw [hH6]; exact hi5'
     have HED6 : RowKit.Hid (H6.ws[i] = d1) := Lib.hid (by simp only [hH6]; exact HED5.out)
     have HET6 : RowKit.Hid (H6.tk = H.tk) := Lib.hid (by rw [hH6]; exact HET5.out)
     have HF0 := hFinish P10.ha i hi6 hi6' (by have := HES5.out; rw [hR6]; simp; omega) (by rw [HED6.out, HD1.out]; exact ht i hi') qa7n
     rw [← HQ.out] at HF0
     have HF := Lib.hid HF0
     have HP10 := Lib.hid P10
     have HH6 : RowKit.Hid (H6 = { H5 with ev := H5.ev ++ [⟨evE H.tk i d1.bg d1.st.p 3, []⟩] }) := Lib.hid (by rw [hH6, HE3.out])
     rw [← hz15]
     clear E7 hz15 hR6 hH6 P10 HF0
     go_wp2_with fail
     refine HF.out.mono ?_
     rintro e zg ⟨rfl, RF, PG⟩
     have HPG := Lib.hid (HP10.out.trans PG)
     clear PG
     go_wp2
     go_end0
     refine ⟨rfl, RF, ?_⟩
     have := HPG.out
     rw [HED6.out, HET6.out, HH6.out] at this
     rw [← HOD.out, HSF.out, if_pos h0]
     exact this
    ·go_simp
     refine HEV5.out.mono ?_
     rintro e z12 ⟨rfl, ig⟩
     have HB12 := Lib.hid (HB11.out.trans (ig.mono HB11.out.size))
     have y12 : z12.cell? ⟨g.h, 2, none⟩ = some (.slice R5.ev.ad R5.ev.len R5.ev.cap) := qa7l
     obtain ⟨gn3, hgn3⟩ : ∃ q, q = z12.heap.size := ⟨_, rfl⟩
     obtain ⟨z13, hz13⟩ : ∃ q, q = z12.alloc (.cells (ec e3) ETy) := ⟨_, rfl⟩
     have HB13 : RowKit.Hid (Below zf.heap.size zf z13) := Lib.hid qa7h
     have HN3 : RowKit.Hid (Bk z13 gn3 (ec e3) ETy) := Lib.hid qa7i
     have y13 : z13.cell? ⟨g.h, 2, none⟩ = some (.slice R5.ev.ad R5.ev.len R5.ev.cap) := qa7m
     have HZ13 := Lib.hid hz13
     have HGN3 := Lib.hid hgn3
     clear hz13 hgn3 ig
     refine hK.out _ _ trivial (fun hHeld => ?_)
     clear hK K
     try simp only [Act.put, jP]
     refine jR [4, 8] ?_
     refine jC rfl (fun K hK => ?_) (jC rfl (fun K hK => ?_) jN)
     go_simp
     refine hK.out _ _ hHeld (fun hHeld => ?_)
     clear hK K
     try simp only [Act.put, jP]
     refine jR [8] ?_
     refine jC rfl (fun K hK => ?_) jN
     refine dA rfl _ rfl e3 rfl ?_
     rw [← HZ13.out, ← HGN3.out]
     refine hK.out _ _ trivial (fun hHeld => ?_)
     rotate_left
     refine dA rfl _ rfl e3 rfl ?_
     rw [← HZ13.out, ← HGN3.out]
     refine hK.out _ _ trivial (fun hHeld => ?_)
     clear hK K
     try simp only [Act.put, jP]
     refine jR [4] ?_
     refine jC rfl (fun K hK => ?_) jN
     go_simp
     refine hK.out _ _ hHeld (fun hHeld => ?_)
     rotate_left
     all_goals
      clear hK K
      try simp only [Act.put, jP]
      refine jR [9] ?_
      refine jC rfl (fun K hK => ?_) jN
      have H7 := (HP9.out.keep HB13.out).ha
      refine step_append elemEv rfl _ _ rfl 0 R5.ev.v R5.es.length (evC R5.es) rfl H7.mu.ev gn3 1 1 (ec e3).toList rfl jy (fun j hj => by rw [HN3.out.cells]; simp) (ec_one e3) (by have := HES5.out; omega) (Nat.zero_le _) ?_
      intro v' z14 O3 G3 hy3
      obtain ⟨⟨a9, n9, c9⟩, rfl, hyl⟩ := gI O3
      obtain rfl : n9 = R5.es.length + 1 := hyl
      have X14 : Bk z14 g.h (hC g R5 H5.tk) HTy := eH H7.mu.box (Agr.grown (P := fun b => b = g.h) G3 (fun b hb e => H7.mu.ne_h.2.2.2.1 b (blk_iff.2 e.symm) hb)) rfl
      have HO3 := Lib.hid O3
      have HG3 := Lib.hid G3
      have HY3 := Lib.hid hy3
      have c14 : z14.cell? ⟨g.h, 2, none⟩ = some (.slice R5.ev.ad R5.ev.len R5.ev.cap) := qa7k
      have f14 := X14.frozen
      refine hK.out _ _ trivial (fun hHeld => ?_)
      clear hK K X14 O3 G3 hy3 H7
      try simp only [Act.put, jP]
      refine jT 10 (.pointer (some ⟨g.h, 0, none⟩)) rfl hHeld ?_
      try simp only [Act.put, jP]
      refine jT 11 (.pointer (some ⟨g.h, 2, none⟩)) rfl hHeld ?_
      try simp only [Act.put, jP]
      refine jR [12] ?_
      refine jC rfl (fun K hK => ?_) jN
      go_simp
      refine hK.out _ _ trivial (fun hHeld => ?_)
      clear hK K
      try simp only [Act.put, jP]
      refine wpAnyH_done ah ?_ _
      clear hHeld c14 f14 y11 y12 y13
      have E7 := HP9.out.ha.evApp e3 ⟨e3, []⟩ (y := ⟨a9, R5.es.length + 1, c9⟩) HB13.out ⟨rfl, by rw [he3d]; exact ⟨Reads.nil _ _, .inl rfl⟩⟩ HO3.out HG3.out HY3.out
      obtain ⟨z15, hz15⟩ : ∃ u, u = z14.setCell ⟨g.h, 2, none⟩ (.slice a9 (R5.es.length + 1) c9) := ⟨_, rfl⟩
      obtain ⟨R6, hR6⟩ : ∃ y : HR, y = { R5 with ev := ⟨a9, R5.es.length + 1, c9⟩, es := R5.es ++ [e3] } := ⟨_, rfl⟩
      obtain ⟨H6, hH6⟩ : ∃ y : HD, y = { H5 with ev := H5.ev ++ [⟨e3, []⟩] } := ⟨_, rfl⟩
      have P10 : HP S g c R w R6 H6 z15 := by rw [hR6, hH6, hz15]; exact HP9.out.trans E7
      have hi6 : i < R6.rs.length := by rw [hR6]; exact hi5
      have hi6' : i < H6.ws.length := by rw [hH6]; exact hi5'
      have HED6 : RowKit.Hid (H6.ws[i] = d1) := Lib.hid (by simp only [hH6]; exact HED5.out)
      have HET6 : RowKit.Hid (H6.tk = H.tk) := Lib.hid (by rw [hH6]; exact HET5.out)
      have HF0 := hFinish P10.ha i hi6 hi6' (by have := HES5.out; rw [hR6]; simp; omega) (by rw [HED6.out, HD1.out]; exact ht i hi') qa7n
      rw [← HQ.out] at HF0
      have HF := Lib.hid HF0
      have HP10 := Lib.hid P10
      have HH6 : RowKit.Hid (H6 = { H5 with ev := H5.ev ++ [⟨evE H.tk i d1.bg d1.st.p 3, []⟩] }) := Lib.hid (by rw [hH6, HE3.out])
      rw [← hz15]
      clear E7 hz15 hR6 hH6 P10 HF0
      go_wp2_with fail
      refine HF.out.mono ?_
      rintro e zg ⟨rfl, RF, PG⟩
      have HPG := Lib.hid (HP10.out.trans PG)
      clear PG
      go_wp2
      go_end0
      refine ⟨rfl, RF, ?_⟩
      have := HPG.out
      rw [HED6.out, HET6.out, HH6.out] at this
      rw [← HOD.out, HSF.out, if_pos h0]
      exact this
   ·refine (jS s6 (b := false) qa60 _).mono ?_
    rintro e zf ⟨rfl, hbf⟩
    have P9 := HP8.out.keep hbf
    have HP9 := Lib.hid P9
    clear P9
    go_wp2
    go_end0
    refine ⟨rfl, R5, ?_⟩
    rw [← HOD.out, HSF.out, if_neg h0]
    exact HP9.out
end Go.Proofs.YtaiodbcnbcdokaaGreat.Ha
