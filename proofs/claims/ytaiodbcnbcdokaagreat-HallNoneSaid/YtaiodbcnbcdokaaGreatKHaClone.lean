/- Part HaClone. -/
import Derived.Test.YtaiodbcnbcdokaaGreatKHaStart
set_option linter.unusedVariables false
set_option linter.unusedSimpArgs false
set_option linter.unusedSectionVars false
set_option maxRecDepth 100000
set_option maxHeartbeats 16000000
section
namespace Go.Proofs.YtaiodbcnbcdokaaGreat.Ha
open Go Go.RowKit Go.ChangeMaps Gro Own Wd Ap Go.Proofs.YtaiodbcnbcdokaaGreat.Pl Wo Me Shp Opn
structure WfH (c : Cfg) (H : HD) : Prop where
 L : H.L.length ≤ 1000
 wr : WR H.L
 n8 : H.ws.length ≤ 8
 ev : H.ev.length ≤ 80000
 tk : H.tk ≤ 100000
 few : ∀ i (q : i < H.ws.length), Few 200 H.ws[i].st
 pr : ∀ i (q : i < H.ws.length), PR H.ws[i].st.p
 ln : ∀ i (q : i < H.ws.length), H.ws[i].st.p.ln ≠ 0 → (H.ws[i].st.p.gv = false ∧ lineF H.ws[i].st.p.ln) ∨ (H.ws[i].st.p.gv = true ∧ lineT H.ws[i].st.p.ln)
 rd : ∀ i (q : i < H.ws.length), H.ws[i].st.p.ln ≠ 0 → (ay c i H.a H.L H.ws[i].st).x.rd.length ≤ 1000
 told : ∀ i (q : i < H.ws.length), H.ws[i].told.length ≤ 1000
 tkr : ∀ i (q : i < H.ws.length) bg (hb : bg < H.ws[i].prog.length), 0 ≤ fH H.ws H.ws[i].prog[bg] ∧ fH H.ws H.ws[i].prog[bg] < 18446744073709551616
 prog : ∀ i (q : i < H.ws.length), H.ws[i].prog.length ≤ 1000
 bg : ∀ i (q : i < H.ws.length), H.ws[i].bg ≤ 1000
theorem WfH.tick {c : Cfg} {H : HD} (h : WfH c H) (n : Nat) (hn : n ≤ 100000) : WfH c { H with tk := n } := ⟨h.L, h.wr, h.n8, h.ev, hn, h.few, h.pr, h.ln, h.rd, h.told, h.tkr, h.prog, h.bg⟩
theorem hPick {S : Nat → Prop} {w : World} {g : HG} {c : Cfg} {R : HR} {H : HD} (h : HA S w g c R H) (hf : c.Wf) (hb : 1 ≤ c.bl ∧ c.bl ≤ 100) (W : WfH c H) (hk1 : H.tk < 100000) (k : Int) :
  Calls Tryz.prog 23 #[.pointer (some ⟨g.h, 0, none⟩), .int .i64 k] w fun e w' => e = .returned (.tuple #[]) ∧ ∃ R', HP S g c R w R' (pickF c H k) w' := by
 have lh0 := h.mu.box.lt
 have lw0 := h.mu.row.lt
 obtain ⟨t, ht⟩ : ∃ t, t = H.tk := ⟨_, rfl⟩
 obtain ⟨z1, hz1⟩ : ∃ u, u = w.setCell ⟨g.h, 3, none⟩ (.int .i64 ((t : Int) + 1)) := ⟨_, rfl⟩
 obtain ⟨H1, hH1⟩ : ∃ y : HD, y = { H with tk := t + 1 } := ⟨_, rfl⟩
 have P1 : HP S g c R w R H1 z1 := by
  rw [hz1, hH1]
  exact HP.tick h (t + 1)
 have W1 : WfH c H1 := by rw [hH1]; exact W.tick (t + 1) aj
 have n8 : R.rs.length ≤ 8 := by rw [h.ls.len]; exact W.n8
 have hl : R.rs.length = H1.ws.length := P1.ha.ls.len
 have hes : R.es.length ≤ 80000 := by rw [h.ls.evl]; exact W.ev
 have x3 : w.cell? ⟨g.h, 3, none⟩ = some (.int .i64 (t : Int)) := by rw [h.mu.box.cells, ht]; rfl
 have hw1 : IntKind.i64.wrap ((t : Int) + 1) = (t : Int) + 1 := IntWalk.i64_in _ aj
 have f0 := h.mu.box.frozen
 have HFD := Lib.hid (hFind P1.ha k n8)
 have HPF : RowKit.Hid (pickF c H k = (if k < 0 then H1 else match H1.ws[k.toNat]? with
  | none => H1
  | some d => if d.st.p.ln ≠ 0 then stepF c k.toNat d H1 else match d.prog[d.bg]? with
   | some o => startF c k.toNat d o H1
   | none => H1)) := Lib.hid (by rw [hH1, ht]; rfl)
 have HP1 := Lib.hid P1
 have HZ1 := Lib.hid hz1
 have HW1 := Lib.hid W1
 clear P1 hz1 W1 hH1 ht W
 by_cases hv : 0 ≤ k ∧ k < (R.rs.length : Int)
 ·obtain ⟨i, rfl⟩ : ∃ i : Nat, k = i := ⟨k.toNat, by omega⟩
  have hi : i < R.rs.length := aj
  have hi' : i < H1.ws.length := aj
  have ef : findV g R.rs.length (i : Int) = .pointer (some ⟨g.w, 36 * i, none⟩) := by unfold findV; rw [if_pos hv, Int.toNat_natCast]
  have HFD1 : RowKit.Hid (Calls Tryz.prog 60 #[.pointer (some ⟨g.h, 0, none⟩), .int .i64 (i : Int)] z1 fun e w' => e = .returned (.pointer (some ⟨g.w, 36 * i, none⟩)) ∧ w' = z1) := Lib.hid qa7o
  have HPF1 : RowKit.Hid (pickF c H i = if H1.ws[i].st.p.ln ≠ 0 then stepF c i H1.ws[i] H1 else match H1.ws[i].prog[H1.ws[i].bg]? with
   | some o => startF c i H1.ws[i] o H1
   | none => H1) := Lib.hid (by rw [HPF.out, if_neg aj, Int.toNat_natCast, List.getElem?_eq_getElem hi'])
  clear HFD HPF ef hv
  have A0 := HP1.out.ha.ls.wk i hi hi'
  have HST := Lib.hid (fun (hl : H1.ws[i].st.p.ln ≠ 0) => hStep HP1.out.ha hf hb HW1.out.L HW1.out.wr i hi hi' (HW1.out.few i hi') (HW1.out.pr i hi') (HW1.out.ln i hi' hl) aj (HW1.out.told i hi') (HW1.out.rd i hi' hl))
  have HSA := Lib.hid (fun (w2 : World) (P2 : HA (SS S w w2) w2 g c R H1) (hp : H1.ws[i].bg < H1.ws[i].prog.length) => hStart P2 hf n8 i hi hi' H1.ws[i].bg rfl hp HW1.out.told qa7p (HW1.out.tkr i hi' _ hp) (HW1.out.prog i hi') aj)
  have ebg : R.rs[i].bg = (H1.ws[i].bg : Int) := A0.bg
  have esp : R.rs[i].s.p = H1.ws[i].st.p := A0.st.p
  have epl : R.rs[i].pg.len = H1.ws[i].prog.length := by
   obtain ⟨ad, cap, he, _⟩ := A0.pg.1
   exact qa0
  have hpl1 := HW1.out.prog i hi'
  have hbg1 := HW1.out.bg i hi'
  obtain ⟨bg, hbg⟩ : ∃ y, y = H1.ws[i].bg := ⟨_, rfl⟩
  obtain ⟨pl, hpl⟩ : ∃ y, y = H1.ws[i].prog.length := ⟨_, rfl⟩
  obtain ⟨r, hr⟩ : ∃ r, r = R.rs[i] := ⟨_, rfl⟩
  obtain ⟨q, hq⟩ : ∃ q, q = 36 * i := ⟨_, rfl⟩
  rw [← hr] at ebg esp epl
  rw [← hbg] at ebg hbg1
  rw [← hpl] at epl hpl1
  have HROW : RowKit.Hid (∀ (w' : World), Bk w' g.w (wsC R.rs) WTy → ∀ j, j < 36 → w'.cell? ⟨g.w, q + j, none⟩ = (wkC r)[j]?) := Lib.hid (fun w' B j hj => by
   rw [B.cells, hq, hr, jw R.rs i j hi hj])
  have HRG : RowKit.Hid (z1.rangeAt g.w (q + 2) (wc r.s).toList) := Lib.hid (by rw [hq, hr]; exact ws_range HP1.out.ha.mu.row hi)
  have HQ := Lib.hid hq
  rw [← hq] at HFD1
  have HST1 : RowKit.Hid (∀ (hl : H1.ws[i].st.p.ln ≠ 0) (w2 : World), Below z1.heap.size z1 w2 → Calls Tryz.prog 61 #[.pointer (some ⟨g.h, 0, none⟩), .int .i64 (i : Int), .pointer (some ⟨g.w, q, none⟩)] w2 fun e w' => e = .returned (.tuple #[]) ∧ ∃ R', HP S g c R w R' (stepF c i H1.ws[i] H1) w') := Lib.hid (fun hl w2 b2 => by
   have P2 := HP1.out.keep b2
   have k := hStep P2.ha hf hb HW1.out.L HW1.out.wr i hi hi' (HW1.out.few i hi') (HW1.out.pr i hi') (HW1.out.ln i hi' hl) aj (HW1.out.told i hi') (HW1.out.rd i hi' hl)
   rw [← hq] at k
   refine k.mono ?_
   rintro e w' ⟨rfl, R', P3⟩
   exact ⟨rfl, R', P2.trans P3⟩)
  have HSA1 : RowKit.Hid (∀ (hp : bg < H1.ws[i].prog.length) (w2 : World), Below z1.heap.size z1 w2 → Calls Tryz.prog 62 #[.pointer (some ⟨g.h, 0, none⟩), .int .i64 (i : Int), .pointer (some ⟨g.w, q, none⟩)] w2 fun e w' => e = .returned (.tuple #[]) ∧ ∃ R', HP S g c R w R' (startF c i H1.ws[i] H1.ws[i].prog[bg] H1) w') := Lib.hid (fun hp w2 b2 => by
   have P2 := HP1.out.keep b2
   have k := hStart P2.ha hf n8 i hi hi' bg hbg.symm hp HW1.out.told qa7p (HW1.out.tkr i hi' _ hp) (HW1.out.prog i hi') aj
   rw [← hq] at k
   refine k.mono ?_
   rintro e w' ⟨rfl, R', P3⟩
   exact ⟨rfl, R', P2.trans P3⟩)
  have HEP := Lib.hid esp
  have HBG := Lib.hid hbg
  have HPL := Lib.hid hpl
  clear HST HSA A0 hr hq hbg hpl esp
  by_cases h0 : r.s.p.ln = 0
  ·by_cases h1 : bg < pl
   ·have hd1 : decide ((bg : Int) < (pl : Int)) = true := by simp; omega
    go_enter Tryz.func23, Tryz.ntmps23
    go_wp2_with fail
    rw [← HZ1.out]
    refine HFD1.out.mono ?_
    rintro e w2 ⟨rfl, rfl⟩
    clear x3 f0
    go_wp2_with (first | (refine wpList_load_mid rfl 46 _ rfl g.w (q + 2) rfl (wc r.s).toList _ qa77 Tryz.underlying46 rfl ah ?_))
    refine (jS r.s (b := true) qa60 _).mono ?_
    rintro e z2 ⟨rfl, hb2⟩
    have HB2 := Lib.hid hb2
    have B2 := (HP1.out.keep hb2).ha.mu.row
    have y0 : z2.cell? ⟨g.w, q, none⟩ = some (.slice r.pg.ad pl r.pg.cap) := qa7z
    have y1 : z2.cell? ⟨g.w, q + 1, none⟩ = some (.int .i64 (bg : Int)) := (HROW.out z2 B2 1 aj).trans (by rw [← ebg]; rfl)
    have l2 := B2.lt
    clear hb2 B2
    go_wp2_with fail
    go_quiet (fail)
    go_wp2_with fail
    refine (HSA1.out (by rw [← HPL.out]; exact h1) _ (bdN HB2.out _)).mono ?_
    rintro e z3 ⟨rfl, R', P3⟩
    go_wp2
    go_end0
    refine ⟨rfl, R', ?_⟩
    rw [HPF1.out, if_neg (by rw [← HEP.out]; exact fun y => y h0), ← HBG.out, List.getElem?_eq_getElem (by rw [← HPL.out]; exact h1)]
    exact P3
   ·have hd1 : decide ((bg : Int) < (pl : Int)) = false := by simp; omega
    go_enter Tryz.func23, Tryz.ntmps23
    go_wp2_with fail
    rw [← HZ1.out]
    refine HFD1.out.mono ?_
    rintro e w2 ⟨rfl, rfl⟩
    clear x3 f0
    go_wp2_with (first | (refine wpList_load_mid rfl 46 _ rfl g.w (q + 2) rfl (wc r.s).toList _ qa77 Tryz.underlying46 rfl ah ?_))
    refine (jS r.s (b := true) qa60 _).mono ?_
    rintro e z2 ⟨rfl, hb2⟩
    have HB2 := Lib.hid hb2
    have B2 := (HP1.out.keep hb2).ha.mu.row
    have y0 : z2.cell? ⟨g.w, q, none⟩ = some (.slice r.pg.ad pl r.pg.cap) := qa7z
    have y1 : z2.cell? ⟨g.w, q + 1, none⟩ = some (.int .i64 (bg : Int)) := (HROW.out z2 B2 1 aj).trans (by rw [← ebg]; rfl)
    have l2 := B2.lt
    clear hb2 B2
    go_wp2_with fail
    go_quiet (fail)
    go_wp2
    go_end0
    refine ⟨rfl, R, ?_⟩
    rw [HPF1.out, if_neg (by rw [← HEP.out]; exact fun y => y h0), ← HBG.out, List.getElem?_eq_none (by rw [← HPL.out]; omega)]
    exact HP1.out.keep (bdN HB2.out _)
  ·go_enter Tryz.func23, Tryz.ntmps23
   go_wp2_with fail
   rw [← HZ1.out]
   refine HFD1.out.mono ?_
   rintro e w2 ⟨rfl, rfl⟩
   clear x3 f0
   go_wp2_with (first | (refine wpList_load_mid rfl 46 _ rfl g.w (q + 2) rfl (wc r.s).toList _ qa77 Tryz.underlying46 rfl ah ?_))
   refine (jS r.s (b := false) qa60 _).mono ?_
   rintro e z2 ⟨rfl, hb2⟩
   go_wp2_with fail
   refine (HST1.out (by rw [← HEP.out]; exact h0) _ hb2).mono ?_
   rintro e z3 ⟨rfl, R', P3⟩
   go_wp2
   go_end0
   refine ⟨rfl, R', ?_⟩
   rw [HPF1.out, if_pos (by rw [← HEP.out]; exact h0)]
   exact P3
 ·have ef : findV g R.rs.length k = .pointer none := by unfold findV; rw [if_neg hv]
  have HFD1 : RowKit.Hid (Calls Tryz.prog 60 #[.pointer (some ⟨g.h, 0, none⟩), .int .i64 k] z1 fun e w' => e = .returned (.pointer none) ∧ w' = z1) := Lib.hid qa7o
  have HPF1 : RowKit.Hid (pickF c H k = H1) := Lib.hid (by
   rw [HPF.out]
   by_cases h0 : k < 0
   ·rw [if_pos h0]
   ·rw [if_neg h0, List.getElem?_eq_none aj])
  clear HFD HPF ef hv
  go_enter Tryz.func23, Tryz.ntmps23
  go_wp2_with fail
  rw [← HZ1.out]
  refine HFD1.out.mono ?_
  rintro e w2 ⟨rfl, rfl⟩
  clear x3 f0
  go_wp2
  go_end0
  refine ⟨rfl, R, ?_⟩
  rw [HPF1.out]
  exact HP1.out
theorem hPick_nil (k : Int) (w : World) : Calls Tryz.prog 23 #[.pointer none, .int .i64 k] w fun e w' => e = .returned (.tuple #[]) ∧ w' = w := by
 go_enter Tryz.func23, Tryz.ntmps23
 go_wp2
 (try simp only [Exit.inBlock, Exit.then])
 refine bodyPost_ret (results_none rfl _ _ _) rfl ?_
 exact ⟨rfl, rfl⟩
end Go.Proofs.YtaiodbcnbcdokaaGreat.Ha
end
section
namespace Go.Proofs.YtaiodbcnbcdokaaGreat.Ha
open Go Go.ChangeShapes Go.WideShapes Go.ChangeAt Go.RowKit Go.ChangeMaps Gro Own Wd Ap Go.Proofs.YtaiodbcnbcdokaaGreat.Pl Wo Me Shp Opn Opw Scw Mr
def iL (w : World) (v : Value) (p : List (List OpD)) : Prop :=
 ∃ ad cap, v = .slice ad p.length cap ∧ p.length ≤ cap ∧ cap ≤ maxLen ∧ (p = [] ∨ ∃ b off, ad = some ⟨b, off, none⟩ ∧ b < w.heap.size ∧ ∀ i (h : i < p.length), ∃ u, w.cell? ⟨b, off + i, none⟩ = some u ∧ gL w u p[i])
theorem iL.keep {w w' : World} {v : Value} {p : List (List OpD)} (h : iL w v p) (hb : Below w.heap.size w w') : iL w' v p := by
 obtain ⟨ad, cap, rfl, h1, h2, h3⟩ := h
 refine ⟨ad, cap, rfl, h1, h2, ?_⟩
 rcases h3 with h3 | ⟨b, off, rfl, hl, hc⟩
 ·exact .inl h3
 ·refine .inr ⟨b, off, rfl, Nat.lt_of_lt_of_le hl hb.size, fun i hi => ?_⟩
  obtain ⟨u, h1, h2⟩ := hc i hi
  exact ⟨u, (hb.cell (p := ⟨b, off + i, none⟩) hl).trans h1, h2.keep hb⟩
section
variable {W : World}
end
theorem iL.len {w : World} {ap : Option Addr} {n cp : Nat} {p : List (List OpD)} (h : iL w (.slice ap n cp) p) : n = p.length ∧ p.length ≤ maxLen := qa1b
theorem gL.len {w : World} {ap : Option Addr} {n cp : Nat} {p : List OpD} (h : gL w (.slice ap n cp) p) : n = p.length ∧ p.length ≤ maxLen := qa1b
def ckF (c : Cfg) (p : List (List OpD)) : Int :=
 if chk c ≠ 0 then chk c else if c.ww < (p.length : Int) then 1 else if (p.any fun l => decide (200 < l.length)) = true then 5 else if (p.any fun l => l.any fun o => !right o) = true then 3 else 0
theorem ck_eq (c : Cfg) (p : List (List OpD)) : ckF c p = (if chk c ≠ 0 then chk c else if c.ww < (p.length : Int) then 1 else if (p.any fun l => decide (200 < l.length)) = true then 5 else if (p.any fun l => l.any fun o => !right o) = true then 3 else 0) := rfl
theorem cu {k : IntKind} {a b : Int} (h : a = b) : (Ending.returned (.int k a)) = .returned (.int k b) := by rw [h]
def dZ (c : Cfg) : Array Value := #[.int .i64 c.ww, .int .i64 c.sl, .int .i64 c.bl, .int .i64 c.wd, .int .i64 c.en, .int .i64 c.rk, .int .i64 c.bg, .int .u64 c.la]
theorem wpList_alloc_op {ops : Array Oper} {rest : List Oper} {o : Oper} {a : Act} {w : World} {Q : Exit → Act → World → Prop} (hgd : o.guard = none) (ho : o.op = .alloc OTy)
  (h : wpList Tryz.prog ops Q rest (a.put o.dst (.pointer (some ⟨w.heap.size, 0, none⟩))) (w.alloc (.cells (oC OpD.zero) OTy))) : wpList Tryz.prog ops Q (o :: rest) a w := by
 refine wpList_plain hgd fun K hK => ?_
 unfold Oper.wp
 simp [execOp, ho, run_alloc_op, Result.andThen]
 exact hK _ _ h
theorem hCheck (c : Cfg) (W : c.Wf) (ap : Option Addr) (p : List (List OpD)) (cp : Nat) (w : World) (RP : iL w (.slice ap p.length cp) p) :
  Calls Tryz.prog 68 #[cv c, .slice ap p.length cp] w fun e w' => e = .returned (.int .i64 (ckF c p)) ∧ Below w.heap.size w w' := by
 obtain ⟨w1, hw1⟩ : ∃ q, q = w.alloc (.cells (dZ c) 24) := ⟨_, rfl⟩
 have X1 : Bk w1 w.heap.size (dZ c) 24 := qa7q
 have b1 : Below w.heap.size w w1 := qa7r
 have HRP := Lib.hid RP
 have hpl := (iL.len RP).2
 unfold maxLen at hpl
 have HC := Lib.hid (Pl.check c W w1)
 have HX := Lib.hid X1
 have HB := Lib.hid b1
 have x1 : w1.cell? ⟨w.heap.size, 0, none⟩ = some (.int .i64 c.ww) := by rw [X1.cells]; rfl
 have l1 := X1.lt
 clear RP b1
 go_enter Tryz.func68, Tryz.ntmps68
 go_upto_region 1 with fail
 rw [show w.alloc (.cells #[.int .i64 c.ww, .int .i64 c.sl, .int .i64 c.bl, .int .i64 c.wd, .int .i64 c.en, .int .i64 c.rk, .int .i64 c.bg, .int .u64 c.la] 24) = w1 from hw1.symm]
 clear hw1
 go_wp2_with (first | (refine wpList_load_row rfl 24 _ rfl w.heap.size rfl _ (dZ c) (0, 0) _ (by exact HX.out) Tryz.underlying24 rfl ah ?_))
 refine HC.out.mono ?_
 rintro e w2 ⟨rfl, hb2⟩
 have X2 := HX.out.keep hb2
 have HB2 := Lib.hid (HB.out.trans (hb2.mono HB.out.size))
 have x2 : w2.cell? ⟨w.heap.size, 0, none⟩ = some (.int .i64 c.ww) := by rw [X2.cells]; rfl
 have l2 := X2.lt
 clear hb2 X2 x1 l1
 by_cases hc : chk c = 0
 case neg =>
  have hq : (chk c != 0) = true := by simp [hc]
  have HE : RowKit.Hid (ckF c p = chk c) := Lib.hid (by rw [ck_eq c p, if_pos hc])
  clear hc
  go_wp2_with fail
  go_ret
  exact ⟨cu HE.out.symm, HB2.out⟩
 have hq : (chk c != 0) = false := by simp [hc]
 have hww := ((fK (c := c)).1 hc).ww
 by_cases hp : c.ww < (p.length : Int)
 case pos =>
  have HE : RowKit.Hid (ckF c p = 1) := Lib.hid (by rw [ck_eq c p, if_neg (fun z => z hc), if_pos hp])
  clear hc
  go_wp2_with fail
  go_ret
  exact ⟨cu HE.out.symm, HB2.out⟩
 have HE0 : RowKit.Hid (ckF c p = (if (p.any fun l => decide (200 < l.length)) = true then 5 else if (p.any fun l => l.any fun o => !right o) = true then 3 else 0)) := Lib.hid (by rw [ck_eq c p, if_neg (fun z => z hc), if_neg hp])
 clear hc
 have hp8 : p.length ≤ 8 := aj
 go_wp2_with fail
 clear x2 l2
 go_loopw [24] (fun i wr => ∃ n : Nat, n ≤ p.length ∧ i = .int .i64 (n : Int) ∧ RowKit.Hid (∀ j (h : j < n) (h1 : j < p.length), p[j].length ≤ 200) ∧ RowKit.Hid (Below w.heap.size w wr)) (fun i _ => p.length - (intOf i).toNat)
 case atStart => exact ⟨0, Nat.zero_le _, rfl, Lib.hid (fun j h => by omega), HB2⟩
 case round =>
  obtain ⟨n, hn, rfl, HA, HW⟩ := hrel
  obtain ⟨w3, hw3⟩ : ∃ q, q = wr := ⟨_, rfl⟩
  subst hw3
  by_cases hlt : n < p.length
  ·obtain ⟨_, _, he, _, _, hrp⟩ := HRP.out
   injection he with he1 _ he2
   subst he1 he2
   rcases hrp with hrp | ⟨b, off, rfl, hbl, hcell⟩
   ·rw [hrp] at hlt; cases hlt
   obtain ⟨u, hu1, hu2⟩ := hcell n hlt
   have q1 := (HW.out.cell (p := ⟨b, off + n, none⟩) hbl).trans hu1
   obtain ⟨al, cl, rfl, hl1, hl2, _⟩ := hu2
   obtain ⟨ln, hln⟩ : ∃ q, q = p[n].length := ⟨_, rfl⟩
   rw [← hln] at q1 hl1
   unfold maxLen at hl2
   clear hu1 hcell
   by_cases hg : 200 < ln
   ·have HE : RowKit.Hid (ckF c p = 5) := Lib.hid (by
     rw [HE0.out, if_pos]
     exact List.any_eq_true.2 ⟨p[n], List.getElem_mem hlt, by simp; omega⟩)
    have hg2 : (200 : Int) < (ln : Int) := aj
    clear hln
    go_wp2_with fail
    go_ret
    exact ⟨cu HE.out.symm, HW.out⟩
   ·have hg2 : ¬ (200 : Int) < (ln : Int) := by omega
    have HL := Lib.hid hln
    clear hln
    go_wp2_with fail
    go_roundw
    case rel => exact ⟨n + 1, by omega, by go_num, Lib.hid (fun j h h1 => by rcases Nat.lt_succ_iff_lt_or_eq.1 h with h | rfl; exact HA.out j h h1; rw [← HL.out]; omega), HW⟩
    case measure => simp [intOf]; omega
  ·obtain rfl : n = p.length := by omega
   have HE1 : RowKit.Hid (ckF c p = (if (p.any fun l => l.any fun o => !right o) = true then 3 else 0)) := Lib.hid (by
    rw [HE0.out, if_neg]
    intro z
    obtain ⟨l, hl, hz⟩ := List.any_eq_true.1 z
    obtain ⟨j, hj, rfl⟩ := List.mem_iff_getElem.1 hl
    have := HA.out j hj hj
    simp at hz
    omega)
   clear HE0
   go_wp2_with fail
   go_loopw [34] (fun i wr => ∃ n : Nat, n ≤ p.length ∧ i = .int .i64 (n : Int) ∧ RowKit.Hid (∀ j (h : j < n) (h1 : j < p.length), ∀ o ∈ p[j], right o = true) ∧ RowKit.Hid (Below w.heap.size w wr)) (fun i _ => p.length - (intOf i).toNat)
   case atStart => exact ⟨0, Nat.zero_le _, rfl, Lib.hid (fun j h => by omega), HW⟩
   case round =>
    obtain ⟨n, hn, rfl, HA2, HW2⟩ := hrel
    obtain ⟨w4, hw4⟩ : ∃ q, q = wr := ⟨_, rfl⟩
    subst hw4
    by_cases hlt : n < p.length
    ·obtain ⟨_, _, he, _, _, hrp⟩ := HRP.out
     injection he with he1 _ he2
     subst he1 he2
     rcases hrp with hrp | ⟨b, off, rfl, hbl, hcell⟩
     ·rw [hrp] at hlt; cases hlt
     obtain ⟨u, hu1, hu2⟩ := hcell n hlt
     have q1 := (HW2.out.cell (p := ⟨b, off + n, none⟩) hbl).trans hu1
     obtain ⟨al, cl, rfl, hl1, hl2, hl3⟩ := hu2
     obtain ⟨l, hll⟩ : ∃ q, q = p[n] := ⟨_, rfl⟩
     rw [← hll] at q1 hl1 hl3
     unfold maxLen at hl2
     have HLL := Lib.hid hll
     have HO := Lib.hid hl3
     have hm : l.length ≤ 9223372036854775807 := aj
     clear hu1 hcell hll hl3
     go_wp2_with fail
     go_loopw [40] (fun i wr => ∃ m : Nat, m ≤ l.length ∧ i = .int .i64 (m : Int) ∧ RowKit.Hid (∀ j (h : j < m) (h1 : j < l.length), right l[j] = true) ∧ RowKit.Hid (Below w.heap.size w wr)) (fun i _ => l.length - (intOf i).toNat)
     case atStart => exact ⟨0, Nat.zero_le _, rfl, Lib.hid (fun j h => by omega), HW2⟩
     case round =>
      obtain ⟨m, hm2, rfl, HA3, HW3⟩ := hrel
      obtain ⟨w5, hw5⟩ : ∃ q, q = wr := ⟨_, rfl⟩
      subst hw5
      by_cases hlt2 : m < l.length
      ·rcases HO.out with h0 | ⟨b2, off2, rfl, hbl2, hrg⟩
       ·rw [h0] at hlt2; cases hlt2
       have HRG : RowKit.Hid (w5.rangeAt b2 (off2 + m * 7) (opC l[m]).toList) := Lib.hid (fun j v hv => (HW3.out.cell (p := ⟨b2, _, none⟩) hbl2).trans (hrg m hlt2 j v hv))
       obtain ⟨o, ho⟩ : ∃ q, q = l[m] := ⟨_, rfl⟩
       rw [← ho] at HRG
       obtain ⟨g2, hg2⟩ : ∃ q, q = w5.heap.size := ⟨_, rfl⟩
       obtain ⟨w6, hw6⟩ : ∃ q, q = w5.alloc (.cells (oC OpD.zero) OTy) := ⟨_, rfl⟩
       have Z6 : Bk w6 g2 (oC OpD.zero) OTy := by rw [hw6, hg2]; exact Bk.new _ _ _
       have b6 : Below w.heap.size w w6 := by rw [hw6]; exact HW3.out.alloc HW3.out.size _
       obtain ⟨w7, hw7⟩ : ∃ q, q = w6.setRow g2 (oC o) := ⟨_, rfl⟩
       have Z7 : Bk w7 g2 (oC o) OTy := by rw [hw7]; exact Z6.setRow _
       have b7 : Below w.heap.size w w7 := by rw [hw7]; exact below_setRow b6 (by rw [hg2]; exact HW3.out.size) _
       have HCO := Lib.hid (fRight o w7)
       have HG2 := Lib.hid hg2
       have HW6 := Lib.hid hw6
       have HW7 := Lib.hid hw7
       have HZ6 := Lib.hid Z6
       have HZ7 := Lib.hid Z7
       have HB7 := Lib.hid b7
       have HOO := Lib.hid ho
       obtain ⟨x, hx⟩ : ∃ x, x = right o := ⟨_, rfl⟩
       rw [← hx] at HCO
       have HXX := Lib.hid hx
       clear hrg hw6 hw7 Z6 Z7 b6 b7 hg2 ho hx
       cases x with
       | true =>
        go_wp2_with (first | (refine wpList_load_mid rfl 30 _ rfl b2 (off2 + m * 7) rfl (opC o).toList _ qa77 Tryz.underlying30 rfl ah ?_) | (refine wpList_alloc_op rfl rfl ?_; rw [← HW6.out, ← HG2.out]) | (refine wpList_store_row rfl OTy _ _ rfl g2 (oC o) rfl rfl _ _ (by exact HZ6.out) ah ah ah ?_; rw [← HW7.out]) | (refine wpList_load_row rfl OTy _ rfl g2 rfl _ (oC o) (0, 0) _ (by exact HZ7.out) Tryz.underlying30 rfl ah ?_))
        refine HCO.out.mono ?_
        rintro e w8 ⟨rfl, hb8⟩
        have HW8 := Lib.hid (HB7.out.trans (hb8.mono HB7.out.size))
        clear hb8
        go_wp2
        go_roundw
        case rel => exact ⟨m + 1, by omega, by go_num, Lib.hid (fun j h h1 => by rcases Nat.lt_succ_iff_lt_or_eq.1 h with h | rfl; exact HA3.out j h h1; rw [← HOO.out]; exact HXX.out.symm), HW8⟩
        case measure => simp [intOf]; omega
       | false =>
        have HE : RowKit.Hid (ckF c p = 3) := Lib.hid (by
         rw [HE1.out, if_pos]
         exact List.any_eq_true.2 ⟨p[n], List.getElem_mem hlt, List.any_eq_true.2 ⟨o, by rw [HOO.out, ← HLL.out]; exact List.getElem_mem hlt2, by rw [← HXX.out]; rfl⟩⟩)
        go_wp2_with (first | (refine wpList_load_mid rfl 30 _ rfl b2 (off2 + m * 7) rfl (opC o).toList _ qa77 Tryz.underlying30 rfl ah ?_) | (refine wpList_alloc_op rfl rfl ?_; rw [← HW6.out, ← HG2.out]) | (refine wpList_store_row rfl OTy _ _ rfl g2 (oC o) rfl rfl _ _ (by exact HZ6.out) ah ah ah ?_; rw [← HW7.out]) | (refine wpList_load_row rfl OTy _ rfl g2 rfl _ (oC o) (0, 0) _ (by exact HZ7.out) Tryz.underlying30 rfl ah ?_))
        refine HCO.out.mono ?_
        rintro e w8 ⟨rfl, hb8⟩
        have HW8 := Lib.hid (HB7.out.trans (hb8.mono HB7.out.size))
        clear hb8
        go_wp2
        go_ret
        exact ⟨cu HE.out.symm, HW8.out⟩
      ·obtain rfl : m = l.length := by omega
       go_wp2_with fail
       go_roundw
       case rel => exact ⟨n + 1, by omega, by go_num, Lib.hid (fun j h h1 => by
        rcases Nat.lt_succ_iff_lt_or_eq.1 h with h | rfl
        ·exact HA2.out j h h1
        ·rw [← HLL.out]
         intro o ho
         obtain ⟨t, ht, rfl⟩ := List.mem_iff_getElem.1 ho
         exact HA3.out t ht ht), HW3⟩
       case measure => simp [intOf]; omega
    ·obtain rfl : n = p.length := by omega
     have HE : RowKit.Hid (ckF c p = 0) := Lib.hid (by
      rw [HE1.out, if_neg]
      intro z
      obtain ⟨l, hl, hz⟩ := List.any_eq_true.1 z
      obtain ⟨j, hj, rfl⟩ := List.mem_iff_getElem.1 hl
      obtain ⟨o, ho, hz⟩ := List.any_eq_true.1 hz
      rw [HA2.out j hj hj o ho] at hz
      cases hz)
     go_wp2_with fail
     go_ret
     exact ⟨cu HE.out.symm, HW2.out⟩
end Go.Proofs.YtaiodbcnbcdokaaGreat.Ha
end
section
namespace Go.Proofs.YtaiodbcnbcdokaaGreat.Ha
open Go Go.RowKit Go.ChangeMaps Gro Own Wd Ap Go.Proofs.YtaiodbcnbcdokaaGreat.Pl Wo Me Shp Opn Opw Scw
section
variable {P : Program} {ops : Array Oper} {rest : List Oper} {o : Oper} {a : Act} {w : World} {Q : Exit → Act → World → Prop}
def SrcC (w : World) (v : Value) (m : Nat) (news : List Value) : Prop := ∃ ad cap, v = .slice ad m cap ∧ m ≤ cap ∧ (m = 0 ∨ ∃ b off, ad = some ⟨b, off, none⟩ ∧ ∀ j u, news[j]? = some u → w.cell? ⟨b, off + j, none⟩ = some u)
theorem append_ms {t e : TypeId} {size bytes : Nat} (E : Elem P t e size bytes) (hgd : o.guard = none) (s x : Operand) (ho : o.op = .call { callee := .builtin .append, args := #[s, x], argTypes := #[t, t] })
  (base : Nat) (v : Value) (n : Nat) (xs : List Value) (hs : a.eval s = v) (hown : w.ownsRow base e size v n xs) (xv : Value) (m : Nat) (news : List Value) (hx : a.eval x = xv) (hr : SrcC w xv m news)
  (hl : news.length = m * size) (h1 : ∀ u ∈ news, u.oneCell' = true) (hn : n + m ≤ 1000000) (hbase : base ≤ w.heap.size)
  (h : ∀ v' w', w'.ownsRow base e size v' (n + m) (xs ++ news) → w.grownBy w' v.ownBlock → wpList P ops Q rest (a.put o.dst v') w') : wpList P ops Q (o :: rest) a w := by
 obtain ⟨i, z, hi, hz, hsz, hby, hzs⟩ := E.info
 obtain ⟨ad, cap, rfl, hle0, h3⟩ := hr
 by_cases hM : m = 0
 ·subst hM
  obtain ⟨y, rfl⟩ := Ap.gI hown
  have hle : y.len ≤ y.cap := by
   rcases hown.2 with ⟨he, _⟩ | ⟨g, cap, cur, he, _, _, h1, _⟩
   ·simp only [Ap.Sl.v, Value.slice.injEq] at he; omega
   ·simp only [Ap.Sl.v, Value.slice.injEq] at he; omega
  have hnil : news = [] := List.length_eq_zero_iff.1 (by rw [hl, Nat.zero_mul])
  have hsrc : Src P i.size t (.slice ad 0 cap) 0 [] w := by
   cases ad with
   | none => exact Src.ofNil w E.under cap
   | some a => exact Src.ofSlice w E.under a 0 cap [] aF (fun j u hu => by simp at hu) (fun u hu => by cases hu)
  have hrun := run_append_nothing (P := P) w t t o.type e i E.under hi y.ad y.len y.cap hle (.slice ad 0 cap) hsrc
  refine wpList_plain hgd fun K hK' => ?_
  unfold Oper.wp
  simp [execOp, ho, resolve, invoke, builtin, hs, hx, hrun, Result.andThen]
  refine hK' _ _ (h y.v w ?_ ⟨rfl, rfl, rfl, Nat.le_refl _, fun _ _ _ => rfl⟩)
  rw [hnil]
  simpa using hown
 ·rcases h3 with h3 | ⟨b, off, rfl, hc⟩
  ·exact absurd h3 hM
  refine wpList_append_own_at w hgd s x t ho base e i z size bytes E.under hi hz hsz hby hzs E.pos v n xs hs hown ⟨b, off, none⟩ m cap news hx hl (fun j u hu => ?_) h1 qa4f ?_ hbase (fun v' w' h2 h3 _ _ => h v' w' h2 h3)
  ·rw [Addr.add_lit]; exact hc j u hu
  ·exact qa1d
end
def opsC (l : List OpD) : List Value := (l.map fun o => (opC o).toList).flatten
theorem opsC_len (l : List OpD) : (opsC l).length = l.length * 7 := by
 have := flat_len (n := 7) (l.map fun o => (opC o).toList) (fun x hx => by obtain ⟨o, _, rfl⟩ := List.mem_map.1 hx; rfl)
 unfold opsC
 rw [this, List.length_map, Nat.mul_comm]
theorem opsC_at (l : List OpD) (i j : Nat) (hi : i < l.length) (hj : j < 7) : (opsC l)[i * 7 + j]? = (opC l[i]).toList[j]? := by
 unfold opsC
 rw [Nat.mul_comm, flat_at (n := 7) (l.map fun o => (opC o).toList) i j qa4g (fun x hx => by obtain ⟨o, _, rfl⟩ := List.mem_map.1 hx; rfl) hj, List.getElem_map]
theorem opC_one (o : OpD) : ∀ u ∈ (opC o).toList, u.oneCell' = true := fun u hu => by
 have h : (opC o).all (·.oneCell') = true := ah
 exact (Array.all_eq_true_iff_forall_mem.1 h) u (by simpa using hu)
theorem infoOp : ∃ i, Tryz.prog.info? OTy = some i ∧ i.zero = some (.agg (oC OpD.zero)) ∧ i.size = 7 ∧ i.bytes = 56 := by
 have h : (Tryz.prog.info? OTy).map (fun i => (i.zero, i.size, i.bytes)) = some (some (.agg (oC OpD.zero)), 7, 56) := ah
 exact info_parts h
theorem elemOp : Elem Tryz.prog 25 OTy 7 56 := ⟨Tryz.underlying25, by
 obtain ⟨i, h1, h2, h3, h4⟩ := infoOp
 exact ⟨i, _, h1, h2, h3, h4, rfl⟩, by decide, by decide⟩
theorem gL.src {w : World} {v : Value} {l : List OpD} (h : gL w v l) : SrcC w v l.length (opsC l) := by
 obtain ⟨ad, cap, rfl, h1, h2, h3⟩ := h
 refine ⟨ad, cap, rfl, h1, ?_⟩
 rcases h3 with rfl | ⟨b, off, rfl, _, hc⟩
 ·exact .inl rfl
 ·refine .inr ⟨b, off, rfl, fun j u hu => ?_⟩
  have hj : j < l.length * 7 := by rw [← opsC_len]; exact (List.getElem?_eq_some_iff.1 hu).1
  have hi : j / 7 < l.length := aj
  have e : j / 7 * 7 + j % 7 = j := aj
  have ha := opsC_at l (j / 7) (j % 7) hi aj
  rw [e, hu] at ha
  have := hc (j / 7) hi (j % 7) u ha.symm
  rw [show off + j / 7 * 7 + j % 7 = off + j by omega] at this
  exact this
theorem gL.of_own {w : World} {base : Nat} {v : Value} {l : List OpD} (h : w.ownsRow base OTy 7 v l.length (opsC l)) : gL w v l := by
 by_cases h0 : l.length = 0
 ·obtain rfl : l = [] := List.length_eq_zero_iff.1 h0
  rcases h.2 with ⟨rfl, _⟩ | ⟨g, cap, cur, rfl, _, _, h1, h2, _⟩
  ·exact ⟨none, 0, rfl, Nat.zero_le _, by unfold maxLen; omega, .inl rfl⟩
  ·exact ⟨_, cap, rfl, h1, h2, .inl rfl⟩
 ·obtain ⟨g, cap, rfl, hge, hlt, h1, h2, hc⟩ := eG h aj
  refine ⟨_, cap, rfl, h1, h2, .inr ⟨g, 0, rfl, hlt, fun i hi j u hu => ?_⟩⟩
  have hj : j < 7 := (List.getElem?_eq_some_iff.1 hu).1
  rw [Nat.zero_add, hc (i * 7 + j) (by rw [opsC_len]; omega), opsC_at l i j hi hj]
  exact hu
theorem cloneO_some (a : Addr) (n cap : Nat) (L : List OpD) (hL : L.length ≤ 1000) (w : World) (hr : gL w (.slice (some a) n cap) L) : Calls Tryz.prog 69 #[.slice (some a) n cap] w fun e w' => ∃ y : Sl, e = .returned y.v ∧ w'.ownsRow w.heap.size OTy 7 y.v L.length (opsC L) ∧ Below w.heap.size w w' := by
 have hq := fun w => Lib.run_eql_slice_nil (P := Tryz.prog) w 25 OTy (some a) n cap 0 0 Tryz.underlying25
 obtain ⟨gs, hgs⟩ : ∃ q, q = w.heap.size := ⟨_, rfl⟩
 have ho : (w.alloc (.cells #[] OTy)).ownsRow gs OTy 7 (.slice (some ⟨gs, 0, none⟩) 0 0) 0 [] := qa80
 have hb1 : Below w.heap.size w (w.alloc (.cells #[] OTy)) := (Below.refl w.heap.size w).alloc (Nat.le_refl _) _
 have hr2 := gL.src (hr.keep hb1)
 have hbs : gs ≤ (w.alloc (.cells #[] OTy)).heap.size := by rw [hgs]; simp
 obtain ⟨w1, hw1⟩ : ∃ q, q = w.alloc (.cells #[] OTy) := ⟨_, rfl⟩
 rw [← hw1] at ho hb1 hr2 hbs
 have HW1 := Lib.hid hw1
 have HGS := Lib.hid hgs
 have HO := Lib.hid ho
 have HR2 := Lib.hid hr2
 have HB1 := Lib.hid hb1
 have HBS := Lib.hid hbs
 have HM : RowKit.Hid (∀ u ∈ opsC L, u.oneCell' = true) := Lib.hid (fun u hu => by
  unfold opsC at hu
  obtain ⟨x, hx, hu⟩ := List.mem_flatten.1 hu
  obtain ⟨o, _, rfl⟩ := List.mem_map.1 hx
  exact opC_one o u hu)
 clear hw1 hgs ho hb1 hr2 hbs hr
 go_enter Tryz.func69, Tryz.ntmps69
 go_wp2_with (at_builtin; rw [← HW1.out, ← HGS.out]; refine append_ms elemOp rfl _ _ rfl gs _ 0 [] rfl (by exact HO.out) _ L.length (opsC L) rfl (by exact HR2.out) (opsC_len L) HM.out aj HBS.out ?_; intro v3 w3 h3 hb3)
 exact qa1e
theorem cloneO {v : Sl} {L : List OpD} (hL : L.length ≤ 1000) {w : World} (hr : gL w v.v L) : Calls Tryz.prog 69 #[v.v] w fun e w' => ∃ y : Sl, e = .returned y.v ∧ w'.ownsRow w.heap.size OTy 7 y.v L.length (opsC L) ∧ Below w.heap.size w w' := by
 obtain ⟨ad, n, cap⟩ := v
 cases ad with
 | none =>
  have hl : L = [] := by
   obtain ⟨ad, cap, he, _, _, h3⟩ := hr
   simp only [Sl.v, Value.slice.injEq] at he
   rcases h3 with h3 | ⟨b, off, rfl, _⟩
   ·exact h3
   ·exact absurd he.1 aF
  subst hl
  have hq := fun w => Lib.run_eql_slice_nil (P := Tryz.prog) w 25 OTy none n cap 0 0 Tryz.underlying25
  clear hr
  show Calls Tryz.prog _ #[.slice none n cap] w _
  go_enter Tryz.func69, Tryz.ntmps69
  go_wp2
  go_ret
  exact ⟨aG, rfl, World.ownsRow_nil _ _ _ _, Below.refl _ _⟩
 | some a => exact cloneO_some a n cap L hL w hr
end Go.Proofs.YtaiodbcnbcdokaaGreat.Ha
end
