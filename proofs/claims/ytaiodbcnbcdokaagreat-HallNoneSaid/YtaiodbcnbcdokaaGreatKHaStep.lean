/- Part HaStep. -/
import Derived.Test.YtaiodbcnbcdokaaGreatKHaFin
import Derived.Test.YtaiodbcnbcdokaaGreatKHaPt
set_option linter.unusedVariables false
set_option linter.unusedSimpArgs false
set_option linter.unusedSectionVars false
set_option maxRecDepth 100000
set_option maxHeartbeats 16000000
namespace Go.Proofs.YtaiodbcnbcdokaaGreat.Ha
open Go Go.RowKit Go.ChangeMaps Gro Own Wd Ap Go.Proofs.YtaiodbcnbcdokaaGreat.Pl Wo Me Shp Opn
theorem jS (s : Wk) {b : Bool} (hb : (s.p.ln == 0) = b) (w : World) : Calls Tryz.prog 54 #[wv s] w fun e w' => e = .returned (.bool b) ∧ Below w.heap.size w w' := by
 have f0 : ∀ s : Wk, (wc s)[0]? = some (.int .i64 s.p.ln) := fun _ => rfl
 have X0 := Bk.new w (wc s) 46
 have hb0 : Below w.heap.size w (w.alloc (.cells (wc s) 46)) := (Below.refl _ _).alloc (Nat.le_refl _) _
 obtain ⟨v0, hv0⟩ : ∃ u, u = w.alloc (.cells (wc s) 46) := ⟨_, rfl⟩
 rw [← hv0] at X0 hb0
 have x0 := X0.cells 0
 rw [f0] at x0
 have l0 := X0.lt
 rw [hv0] at x0 l0
 go_enter Tryz.func54, Tryz.ntmps54
 go_wp2
 go_ret
 exact ⟨rfl, hv0 ▸ hb0⟩
theorem step_sub {P : Program} {ops : Array Oper} {o : Oper} {a : Act} {w : World} {Q : Exit → Act → World → Prop} {K : Act → World → Prop} {E : Prop} (hgd : o.guard = none) (ty : TypeId) (x y : Operand) (ho : o.op = .store ty x y)
  (g off : Nat) (cells : Array Value) (hx : a.eval x = .pointer (some ⟨g, off, none⟩)) (hy : a.eval y = .agg cells)
  (t : TypeId) (old new : Array Value) (hg : w.heap[g]? = some (.cells old t (0, 0))) (hi : (P.info? ty).map (·.size) = some cells.size)
  (hold : off + cells.size ≤ old.size) (h1 : cells.all (·.oneCell') = true) (hn : Sub.gY old off cells.toList = new)
  (h : K (a.put o.dst undef) (w.setRow g new)) : if Region.wanted o (yielded ops a.tmps) = true then Oper.wp P o a w K Q else E := by
 rw [if_pos qa56]
 unfold Oper.wp execOp
 simp only [ho, hx, hy, Instr.storeAt, Instr.sureAddr, Sem.run_bind, Sem.run_pure, Result.andThen_ok, Sub.iB w g off t ty old cells new hg hi hold h1 hn]
 exact h
theorem ws_range {w : World} {b : Nat} {rs : List WkR} (h : Bk w b (wsC rs) WTy) {i : Nat} (hi : i < rs.length) : w.rangeAt b (36 * i + 2) (wc rs[i].s).toList := fun j v hv => qa1m
theorem HP.start {S : Nat → Prop} {w w' : World} {g : HG} {c : Cfg} {R : HR} {H : HD} (h : HA S w g c R H) (hb : Below w.heap.size w w') : HP S g c R w R H w' := (HP.refl h).keep hb
abbrev ACC : TypeId := 68
def accL (a : Acc) : List Value := [.int .i64 a.kd, .int .i64 a.at_, .int .u64 a.x, .int .u64 a.y, .int .u64 a.old]
theorem acc_range {w : World} {gm gl cap : Nat} {c : Cfg} {a : Acc} {L : List Int} (M : aC 0 w gm c a gl cap L) : w.rangeAt gm 8 (accL a) := fun j v hv => by
 rw [M.B.cells]
 rcases j with _ | _ | _ | _ | _ | j <;> first | exact hv | (simp [accL] at hv)
theorem hStep {S : Nat → Prop} {w : World} {g : HG} {c : Cfg} {R : HR} {H : HD} (h : HA S w g c R H) (hf : c.Wf) (hb : 1 ≤ c.bl ∧ c.bl ≤ 100) (hm : H.L.length ≤ 1000) (hL : WR H.L) (i : Nat) (hi : i < R.rs.length) (hi' : i < H.ws.length) (hx : Few 200 H.ws[i].st) (hp : PR H.ws[i].st.p)
  (hv : (H.ws[i].st.p.gv = false ∧ lineF H.ws[i].st.p.ln) ∨ (H.ws[i].st.p.gv = true ∧ lineT H.ws[i].st.p.ln)) (hn : R.es.length ≤ 90000) (ht : H.ws[i].told.length ≤ 1000) (hrd : (ay c i H.a H.L H.ws[i].st).x.rd.length ≤ 1000) :
  Calls Tryz.prog 61 #[.pointer (some ⟨g.h, 0, none⟩), .int .i64 (i : Int), .pointer (some ⟨g.w, 36 * i, none⟩)] w fun e w' => e = .returned (.tuple #[]) ∧ ∃ R', HP S g c R w R' (stepF c i H.ws[i] H) w' := by
 have HH := Lib.hid h
 have lh0 := h.mu.box.lt
 have lw0 := h.mu.row.lt
 have lm0 : g.m < w.heap.size ∧ g.l < w.heap.size := h.mu.mem.lt
 have A0 := h.ls.wk i hi hi'
 obtain ⟨q, hq⟩ : ∃ q, q = 36 * i := ⟨_, rfl⟩
 obtain ⟨r, hr⟩ : ∃ r, r = R.rs[i] := ⟨_, rfl⟩
 obtain ⟨d, hd⟩ : ∃ d, d = H.ws[i] := ⟨_, rfl⟩
 have HR0 : RowKit.Hid (r = R.rs[i]) := Lib.hid hr
 have HPR : RowKit.Hid (r.s.p = d.st.p) := Lib.hid (by rw [hr, hd]; exact A0.st.p)
 have HD0 : RowKit.Hid (d = H.ws[i]) := Lib.hid hd
 have HQ := Lib.hid hq
 rw [← hd] at hx hp hv ht hrd ⊢
 have RG : w.rangeAt g.w (q + 2) (wc r.s).toList := by rw [hq, hr]; exact ws_range h.mu.row hi
 have HRG := Lib.hid RG
 rw [← hq]
 obtain ⟨b, hbb⟩ : ∃ b, b = w.heap.size := ⟨_, rfl⟩
 obtain ⟨wA, hwA⟩ : ∃ u, u = w.alloc (.cells (wc wz) 46) := ⟨_, rfl⟩
 have XA : Bk wA b (wc wz) 46 := by rw [hwA, hbb]; exact Bk.new _ _ _
 have bA : Below w.heap.size w wA := by rw [hwA]; exact (Below.refl _ _).alloc (Nat.le_refl _) _
 obtain ⟨wB, hwB⟩ : ∃ u, u = wA.setRow b (wc r.s) := ⟨_, rfl⟩
 have XB : Bk wB b (wc r.s) 46 := by rw [hwB]; exact XA.setRow _
 have bB : Below w.heap.size w wB := by rw [hwB]; exact below_setRow bA aj _
 have bne : b ≠ g.m ∧ b ≠ g.l ∧ b ≠ g.w ∧ b ≠ g.h := aj
 have hzB : Below wB.heap.size wB wB.drew := Below.drew (Below.refl _ _)
 have bC : Below w.heap.size w wB.drew := bB.trans (hzB.mono bB.size)
 have HP0 := Lib.hid (HP.start h bC)
 have XC := XB.keep hzB
 have HWS := Lib.hid (workStepAny HP0.out.ha.mu.mem hf hb hm hL (i : Int) r.s d.st hx (by have := (HP0.out.ha.ls.wk i hi hi').st.lies; rw [← hr, ← hd] at this; exact this) hp hv)
 have HXA := Lib.hid XA
 have HXC := Lib.hid XC
 have HWA := Lib.hid hwA
 have HWB := Lib.hid hwB
 have HBB := Lib.hid hbb
 have hS0 : RowKit.Hid (wB.drew.cell? ⟨g.h, 0, none⟩ = some (.pointer (some ⟨g.m, 0, none⟩))) := Lib.hid (by rw [HP0.out.ha.mu.box.cells]; rfl)
 clear RG hq hr hd A0 hwA hwB XA XB XC bA bB hzB bC hbb
 go_enter Tryz.func61, Tryz.ntmps61
 go_wp2_with (first | (refine wpList_load_mid rfl 46 _ rfl g.w (q + 2) rfl (wc r.s).toList _ qa77 Tryz.underlying46 rfl ah ?_) | (refine au rfl rfl ?_; rw [← HWA.out, ← HBB.out]) | (refine wpList_store_row rfl 46 _ _ rfl b (wc r.s) rfl rfl _ _ (by exact HXA.out) ah ah ah ?_; rw [← HWB.out]))
 refine wp_region_held_drew (S := fun w' => w'.cell? ⟨g.h, 0, none⟩ = some (.pointer (some ⟨g.m, 0, none⟩)) ∧ Bk w' b (wc r.s) 46) ah ⟨hS0.out, HXC.out⟩ (fun hHeld => ?_)
 generalize wB.drew = z0 at *
 refine jT 0 (.pointer (some ⟨g.w, q, none⟩)) rfl hHeld ?_
 try simp only [Act.put, jP]
 refine jT 1 (.pointer (some ⟨g.h, 0, none⟩)) rfl hHeld ?_
 try simp only [Act.put, jP]
 refine jT 2 (.pointer (some ⟨g.h, 0, none⟩)) rfl hHeld ?_
 try simp only [Act.put, jP]
 refine jT 3 (.pointer (some ⟨g.h, 0, none⟩)) rfl hHeld ?_
 try simp only [Act.put, jP]
 refine jY 4 (.pointer (some ⟨g.m, 0, none⟩)) rfl (Or.inl ⟨by rfl, fun w' hSw => by have xx := hSw.1; go_simp⟩) hHeld ?_
 try simp only [Act.put, jP]
 refine jT 5 (.int .i64 (i : Int)) rfl hHeld ?_
 try simp only [Act.put, jP]
 refine jY 6 (.agg (wc r.s)) rfl (bV rfl 46 _ rfl b rfl (wc r.s) 46 _ (fun w' hw' => hw'.2) Tryz.underlying46 rfl ah) hHeld ?_
 try simp only [Act.put, jP]
 refine jR [7] ?_
 refine jC rfl (fun K hK => ?_) jN
 go_simp
 refine HWS.out.mono ?_
 rintro e z1 ⟨s2, rfl, A2, M2, T2⟩
 have P1 := HP0.out.trans (HP.memory HP0.out.ha M2 T2)
 have X1 := T2.bk HXC.out bne.1 bne.2.1
 have HA2 := Lib.hid A2
 have HP1 := Lib.hid P1
 have HX1 := Lib.hid X1
 have HT2 := Lib.hid T2
 have c1 : z1.cell? ⟨g.h, 0, none⟩ = some (.pointer (some ⟨g.m, 0, none⟩)) := by rw [P1.ha.mu.box.cells]; rfl
 have HC1 := Lib.hid c1
 refine hK.out _ _ ⟨c1, X1⟩ (fun hHeld => ?_)
 clear hK K P1 X1 A2 M2 T2 c1
 try simp only [Act.put, jP]
 refine jT 8 (.tuple #[wv s2, .bool true]) rfl hHeld ?_
 try simp only [Act.put, jP]
 refine jT 9 (wv s2) rfl hHeld ?_
 try simp only [Act.put, jP]
 refine jT 10 (.bool true) rfl hHeld ?_
 try simp only [Act.put, jP]
 refine jT 11 (.pointer (some ⟨g.w, q, none⟩)) rfl hHeld ?_
 try simp only [Act.put, jP]
 refine jT 12 (.pointer (some ⟨g.w, q + 2, none⟩)) rfl hHeld ?_
 try simp only [Act.put, jP]
 refine jR [13] ?_
 refine jC rfl (fun K hK => ?_) jN
 refine step_sub rfl 46 _ _ rfl g.w (q + 2) (wc s2) rfl rfl WTy (wsC R.rs) (wsC (R.rs.set i { R.rs[i] with s := s2 })) HP1.out.ha.mu.row ah qa7e ah (by rw [HQ.out]; exact wsC_st R.rs i s2 hi) ?_
 refine hK.out _ _ ⟨(World.cell?_of_block (setRow_other z1 g.w g.h _ (fun e => HH.out.mu.ne_h.2.2.1 e.symm))).trans HC1.out, HX1.out.aJ bne.2.2.1 _⟩ (fun hHeld => ?_)
 clear hK K
 try simp only [Act.put, jP]
 refine wpAnyH_done ah ?_ _
 obtain ⟨x2, hx2⟩ : ∃ x, x = (ay c i H.a H.L d.st).x := ⟨_, rfl⟩
 have hA2 : aM (fun b => SS S w z1 b ∧ ¬ dz g R b) z1 s2 x2 := by
  rw [hx2]
  refine aM.of HA2.out (fun b' h1 h2 => ⟨.inr ⟨Nat.le_trans HP0.out.fr.size h2, h1⟩, fun m => ?_⟩)
  have := HH.out.lt _ (HH.out.sub _ m)
  have := HP0.out.fr.size
  omega
 have P2 := HP1.out.trans ((HP.st HP1.out.ha hi hi' s2 x2 hA2))
 obtain ⟨R2, hR2⟩ : ∃ y : HR, y = { R with rs := R.rs.set i { R.rs[i] with s := s2 } } := ⟨_, rfl⟩
 obtain ⟨H2, hH2⟩ : ∃ y : HD, y = { H with a := (ay c i H.a H.L d.st).a, L := (ay c i H.a H.L d.st).L, ws := H.ws.set i { H.ws[i] with st := x2 } } := ⟨_, rfl⟩
 obtain ⟨z2, hz2⟩ : ∃ u, u = z1.setRow g.w (wsC (R.rs.set i { R.rs[i] with s := s2 })) := ⟨_, rfl⟩
 have P3 : HP S g c R w R2 H2 z2 := by rw [hR2, hH2, hz2]; exact P2
 have X2 : Bk z2 b (wc r.s) 46 := by rw [hz2]; exact HX1.out.aJ bne.2.2.1 _
 have hi2 : i < R2.rs.length := by rw [hR2]; simpa using hi
 have hi2' : i < H2.ws.length := by rw [hH2]; simpa using hi'
 have er2 : R2.rs[i] = { r with s := s2 } := by simp only [hR2, HR0.out, List.getElem_set_self]
 have ed2 : H2.ws[i] = { d with st := x2 } := by simp only [hH2, HD0.out, List.getElem_set_self]
 have A3 := P3.ha.ls.wk i hi2 hi2'
 have esp : s2.p = x2.p := by have := A3.st.p; rw [er2, ed2] at this; exact this
 have ebg : r.bg = d.bg := by have := A3.bg; rw [er2, ed2] at this; exact this
 have etk : H2.tk = H.tk := by rw [hH2]
 have ees : R2.es = R.es := by rw [hR2]
 have HEV := Lib.hid (hEvent P3.ha i hi2 2)
 obtain ⟨e0, he0⟩ : ∃ e, e = evE H2.tk i R2.rs[i].bg R2.rs[i].s.p 2 := ⟨_, rfl⟩
 rw [← he0] at HEV
 have HE0 : RowKit.Hid (e0 = evE H.tk i d.bg x2.p 2) := Lib.hid (by rw [he0, er2, etk]; show evE _ _ r.bg s2.p 2 = _; rw [esp, ebg])
 have HP3 := Lib.hid P3
 have HX2 := Lib.hid X2
 have HR2 := Lib.hid hR2
 have HH2 := Lib.hid hH2
 have HER2 := Lib.hid er2
 have HED2 := Lib.hid ed2
 have HSP := Lib.hid esp
 have HBG := Lib.hid ebg
 have HX2d := Lib.hid hx2
 have hes2 : R2.es.length ≤ 90000 := by rw [ees]; exact hn
 rw [← hz2]
 clear P2 P3 X2 hR2 hH2 hz2 er2 ed2 A3 esp ebg etk ees he0 hA2 hx2 hHeld
 go_wp2_with (first | (refine dJ rfl rfl ?_))
 refine HEV.out.mono ?_
 rintro e w1 ⟨rfl, hb1⟩
 have sz1 := hb1.size
 have sz0 : w.heap.size ≤ z2.heap.size := HP3.out.fr.size
 have P4 := HP3.out.keep hb1
 obtain ⟨eb, heb⟩ : ∃ q, q = w1.heap.size := ⟨_, rfl⟩
 obtain ⟨w2, hw2⟩ : ∃ u, u = w1.alloc (.cells (ec evZ) ETy) := ⟨_, rfl⟩
 have Z2 : Bk w2 eb (ec evZ) ETy := qa78
 have b2 : Below z2.heap.size z2 w2 := qa79
 obtain ⟨w3, hw3⟩ : ∃ u, u = w2.setRow eb (ec e0) := ⟨_, rfl⟩
 have Z3 : Bk w3 eb (ec e0) ETy := qa7a
 have b3 : Below z2.heap.size z2 w3 := qa7y
 have hew : z2.heap.size ≤ eb := by rw [heb]; exact sz1
 have lb2 := HX2.out.lt
 have heb2 : eb ≠ g.h ∧ eb ≠ g.m ∧ eb ≠ g.w ∧ eb ≠ b := aj
 obtain ⟨w4, hw4⟩ : ∃ u, u = w3.setCell ⟨eb, 14, none⟩ (.int .i64 r.s.p.ln) := ⟨_, rfl⟩
 have Z4 : Bk w4 eb (ec { e0 with ln := r.s.p.ln }) ETy := by rw [hw4]; exact Z3.setCell 14 _
 have b4 : Below z2.heap.size z2 w4 := by rw [hw4]; exact b3.setCell (p := ⟨eb, 14, none⟩) (by show z2.heap.size ≤ eb; omega) _
 obtain ⟨aa, haa⟩ : ∃ y : Acc, y = H2.a := ⟨_, rfl⟩
 obtain ⟨e1, he1⟩ : ∃ e : Ev, e = { e0 with ln := r.s.p.ln, ak := aa.kd, at_ := aa.at_, x := aa.x, y := aa.y, old := aa.old } := ⟨_, rfl⟩
 obtain ⟨w5, hw5⟩ : ∃ u, u = w4.setRow eb (ec e1) := ⟨_, rfl⟩
 have Z5 : Bk w5 eb (ec e1) ETy := by rw [hw5]; exact Z4.setRow _
 have b5 : Below z2.heap.size z2 w5 := by rw [hw5]; exact below_setRow b4 aj _
 have x3 : w3.cell? ⟨b, 0, none⟩ = some (.int .i64 r.s.p.ln) := by rw [(HX2.out.keep b3).cells]; rfl
 have x3' : w3.cell? ⟨eb, 14, none⟩ = some (.int .i64 e0.ln) := by rw [Z3.cells]; rfl
 have f3 := Z3.frozen
 have x4 : w4.cell? ⟨g.h, 0, none⟩ = some (.pointer (some ⟨g.m, 0, none⟩)) := by rw [(HP3.out.ha.keep b4).mu.box.cells]; rfl
 have HRA : RowKit.Hid (w4.rangeAt g.m 8 (accL aa)) := Lib.hid (by rw [haa]; exact acc_range (HP3.out.ha.keep b4).mu.mem)
 have HZ2e := Lib.hid Z2
 have HZ4 := Lib.hid Z4
 have HZ5 := Lib.hid Z5
 have HW2 := Lib.hid hw2
 have HW3 := Lib.hid hw3
 have HW4 := Lib.hid hw4
 have HW5 := Lib.hid hw5
 have HEB := Lib.hid heb
 have HE1 := Lib.hid he1
 have HAA := Lib.hid haa
 have HB5 := Lib.hid b5
 have HSUB : RowKit.Hid (Sub.gY (ec { e0 with ln := r.s.p.ln }) 15 (accL aa).toArray.toList = ec e1) := Lib.hid (by rw [he1]; rfl)
 clear P4 heb hw2 Z2 b2 hw3 Z3 b3 hw4 Z4 b4 haa he1 hw5 Z5 b5 hb1
 go_upto_region 5 with (first | (refine dJ rfl rfl ?_; rw [← HW2.out, ← HEB.out]) | (refine wpList_store_row rfl ETy _ _ rfl eb (ec e0) rfl rfl _ _ (by exact HZ2e.out) ah ah ah ?_; rw [← HW3.out]) | (rw [← HW4.out]) | (refine wpList_load_mid rfl ACC _ rfl g.m (8) rfl (accL aa) _ (by exact HRA.out) Tryz.underlying68 rfl ah ?_) | (refine Sub.bQ rfl ACC _ _ rfl eb 15 (accL aa).toArray rfl rfl ETy (ec { e0 with ln := r.s.p.ln }) (ec e1) (by exact HZ4.out) ah (by show 15 + 5 ≤ 20; omega) ah HSUB.out ?_; rw [← HW5.out]))
 clear x3 x3' f3 x4
 have hz5 : Below w5.heap.size w5 w5.drew := Below.drew (Below.refl _ _)
 refine wp_region_held_drew (S := fun w' => Bk w' eb (ec e1) ETy) ah (HZ5.out.keep hz5) (fun hHeld => ?_)
 have b6 := HB5.out.trans (hz5.mono HB5.out.size)
 have Z6 := HZ5.out.keep hz5
 generalize w5.drew = z5 at *
 have H6 := Lib.hid (HP3.out.ha.keep b6)
 have HB6 := Lib.hid b6
 have HZ6 := Lib.hid Z6
 have y1 : z5.cell? ⟨g.h, 2, none⟩ = some (.slice R2.ev.ad R2.ev.len R2.ev.cap) := by rw [H6.out.mu.box.cells]; rfl
 have y2 : (z5.alloc (.cells (ec e1) ETy)).cell? ⟨g.h, 2, none⟩ = some (.slice R2.ev.ad R2.ev.len R2.ev.cap) := by rw [(H6.out.mu.box.alloc _).cells]; rfl
 obtain ⟨gn, hgn⟩ : ∃ q, q = z5.heap.size := ⟨_, rfl⟩
 obtain ⟨z6, hz6⟩ : ∃ q, q = z5.alloc (.cells (ec e1) ETy) := ⟨_, rfl⟩
 have HB7 : RowKit.Hid (Below z5.heap.size z5 z6) := Lib.hid (by rw [hz6]; exact (Below.refl _ _).alloc (Nat.le_refl _) _)
 have HN1 : RowKit.Hid (Bk z6 gn (ec e1) ETy) := Lib.hid (by rw [hz6, hgn]; exact Bk.new _ _ _)
 have HZ1 := Lib.hid hz6
 have HGN := Lib.hid hgn
 rw [← hz6] at y2
 clear b6 Z6 hz6 hgn hz5
 refine jT 0 (.pointer (some ⟨g.h, 0, none⟩)) rfl hHeld ?_
 try simp only [Act.put, jP]
 refine jT 1 (.pointer (some ⟨g.h, 0, none⟩)) rfl hHeld ?_
 try simp only [Act.put, jP]
 refine jT 2 (.pointer (some ⟨g.h, 0, none⟩)) rfl hHeld ?_
 try simp only [Act.put, jP]
 refine jT 3 (.pointer (some ⟨g.h, 2, none⟩)) rfl hHeld ?_
 try simp only [Act.put, jP]
 refine jY 5 (.agg (ec e1)) rfl (bV rfl ETy _ rfl eb rfl (ec e1) ETy _ (fun w' hw' => hw') Tryz.underlying70 rfl ah) hHeld ?_
 try simp only [Act.put, jP]
 refine jR [4, 6] ?_
 refine jC rfl (fun K hK => ?_) (jC rfl (fun K hK => ?_) jN)
 go_simp
 refine hK.out _ _ hHeld (fun hHeld => ?_)
 clear hK K
 try simp only [Act.put, jP]
 refine jR [6] ?_
 refine jC rfl (fun K hK => ?_) jN
 refine dA rfl _ rfl e1 rfl ?_
 rw [← HZ1.out, ← HGN.out]
 refine hK.out _ _ (HZ6.out.keep HB7.out) (fun hHeld => ?_)
 rotate_left
 refine dA rfl _ rfl e1 rfl ?_
 rw [← HZ1.out, ← HGN.out]
 refine hK.out _ _ (HZ6.out.keep HB7.out) (fun hHeld => ?_)
 clear hK K
 try simp only [Act.put, jP]
 refine jR [4] ?_
 refine jC rfl (fun K hK => ?_) jN
 go_simp
 refine hK.out _ _ hHeld (fun hHeld => ?_)
 rotate_left
 all_goals
  clear hK K
  try simp only [Act.put, jP]
  refine jR [7] ?_
  refine jC rfl (fun K hK => ?_) jN
  have H7 := H6.out.keep HB7.out
  refine step_append elemEv rfl _ _ rfl 0 R2.ev.v R2.es.length (evC R2.es) rfl H7.mu.ev gn 1 1 (ec e1).toList rfl jy (fun j hj => by rw [HN1.out.cells]; simp) (ec_one e1) aj (Nat.zero_le _) ?_
  intro v' z7 O2 G2 hy2
  obtain ⟨⟨a7, n7, c7⟩, rfl, hyl⟩ := gI O2
  obtain rfl : n7 = R2.es.length + 1 := hyl
  have lz1 := (HZ6.out.keep HB7.out).lt
  have hne2 : some eb ≠ R2.ev.v.ownBlock := fun e => by
   have := HP3.out.ha.lt eb (HP3.out.ha.sub eb (.inr (.inr (.inr (.inr (.inl (blk_iff.2 e.symm)))))))
   omega
  have Z7 : Bk z7 eb (ec e1) ETy := (G2.block eb lz1 hne2).trans (HZ6.out.keep HB7.out)
  have X7 : Bk z7 g.h (hC g R2 H2.tk) HTy := eH H7.mu.box (Agr.grown (P := fun b => b = g.h) G2 (fun b hb e => H7.mu.ne_h.2.2.2.1 b (blk_iff.2 e.symm) hb)) rfl
  have HO2 := Lib.hid O2
  have HG2 := Lib.hid G2
  have HY2 := Lib.hid hy2
  have HZ7 := Lib.hid Z7
  have c2 : z7.cell? ⟨g.h, 2, none⟩ = some (.slice R2.ev.ad R2.ev.len R2.ev.cap) := by rw [X7.cells]; rfl
  have f2 := X7.frozen
  refine hK.out _ _ Z7 (fun hHeld => ?_)
  clear hK K Z7 X7 O2 G2 hy2 H7
  try simp only [Act.put, jP]
  refine jT 8 (.pointer (some ⟨g.h, 0, none⟩)) rfl hHeld ?_
  try simp only [Act.put, jP]
  refine jT 9 (.pointer (some ⟨g.h, 2, none⟩)) rfl hHeld ?_
  try simp only [Act.put, jP]
  refine jR [10] ?_
  refine jC rfl (fun K hK => ?_) jN
  go_simp
  refine hK.out _ _ (HZ7.out.aA (a := ⟨g.h, 2, none⟩) heb2.1 (.slice a7 (R2.es.length + 1) c7)) (fun hHeld => ?_)
  clear hK K
  try simp only [Act.put, jP]
  refine wpAnyH_done ah ?_ _
  clear hHeld c2 f2 y1 y2
  have EV : ∀ P : Nat → Prop, EvA P z6 e1 ⟨e1, []⟩ := fun P => qa1o
  have E := HP3.out.ha.evApp e1 ⟨e1, []⟩ (y := ⟨a7, R2.es.length + 1, c7⟩) (HB6.out.trans (HB7.out.mono HB6.out.size)) (EV _) HO2.out HG2.out HY2.out
  obtain ⟨z8, hz8⟩ : ∃ u, u = z7.setCell ⟨g.h, 2, none⟩ (.slice a7 (R2.es.length + 1) c7) := ⟨_, rfl⟩
  obtain ⟨R3, hR3⟩ : ∃ y : HR, y = { R2 with ev := ⟨a7, R2.es.length + 1, c7⟩, es := R2.es ++ [e1] } := ⟨_, rfl⟩
  obtain ⟨H3, hH3⟩ : ∃ y : HD, y = { H2 with ev := H2.ev ++ [⟨e1, []⟩] } := ⟨_, rfl⟩
  have P5 : HP S g c R w R3 H3 z8 := by rw [hR3, hH3, hz8]; exact HP3.out.trans E
  have hbn : some b ≠ R2.ev.v.ownBlock := fun e => by
   have hh := HH.out.lt b (HH.out.sub b (.inr (.inr (.inr (.inr (.inl (blk_iff.2 (by rw [HR2.out] at e; exact e.symm))))))))
   have := HBB.out
   omega
  have X6 := (HX2.out.keep HB6.out).keep HB7.out
  have X8 : Bk z8 b (wc r.s) 46 := by rw [hz8]; exact Bk.aA ((HG2.out.block b X6.lt hbn).trans X6) (a := ⟨g.h, 2, none⟩) bne.2.2.2 _
  have hi3 : i < R3.rs.length := by rw [hR3]; exact hi2
  have hi3' : i < H3.ws.length := by rw [hH3]; exact hi2'
  have er3 : R3.rs[i] = { r with s := s2 } := by simp only [hR3]; exact HER2.out
  have ed3 : H3.ws[i] = { d with st := x2 } := by simp only [hH3]; exact HED2.out
  have es3 : R3.es.length = R2.es.length + 1 := by rw [hR3]; simp
  have et3 : H3.tk = H.tk := by rw [hH3, HH2.out]
  have HSF : RowKit.Hid (stepF c i d H = (if s2.p.ln = 0 then endF H.tk i { d with st := x2 } (if isPt r.s.p s2.p = true then { H3 with ev := H3.ev ++ [⟨evE H.tk i d.bg x2.p 3, []⟩] } else H3) else (if isPt r.s.p s2.p = true then { H3 with ev := H3.ev ++ [⟨evE H.tk i d.bg x2.p 3, []⟩] } else H3))) := Lib.hid (by
   rw [hH3, HE1.out, HAA.out, HE0.out, HH2.out, HSP.out, HPR.out, ← HD0.out, HX2d.out]
   rfl)
  have HRG3 : RowKit.Hid (∀ w', Bk w' g.w (wsC R3.rs) WTy → w'.rangeAt g.w (q + 2) (wc s2).toList) := Lib.hid (fun w' B => by
   have := ws_range B hi3
   rw [er3] at this
   rw [HQ.out]
   exact this)
  have HP5 := Lib.hid P5
  have HX8 := Lib.hid X8
  have HER3 := Lib.hid er3
  have HED3 := Lib.hid ed3
  have HES3 := Lib.hid es3
  have HET3 := Lib.hid et3
  rw [← hz8]
  clear EV E hz8 hR3 hH3 P5 X6 X8 er3 ed3 es3 et3
  go_upto_region 6 with fail
  have hz9 : Below z8.heap.size z8 z8.drew := Below.drew (Below.refl _ _)
  refine wp_region_held_drew (S := fun w' => Bk w' b (wc r.s) 46 ∧ w'.rangeAt g.w (q + 2) (wc s2).toList) ah ⟨HX8.out.keep hz9, HRG3.out _ (HP5.out.ha.mu.row.keep hz9)⟩ (fun hHeld => ?_)
  generalize z8.drew = z9 at *
  have HB9 := Lib.hid hz9
  clear hz9
  obtain ⟨pt, hpt⟩ : ∃ y, y = isPt r.s.p s2.p := ⟨_, rfl⟩
  have HPT := Lib.hid (hPoint r.s s2 z9)
  rw [← hpt] at HPT HSF
  clear hpt
  refine jY 0 (.agg (wc r.s)) rfl (bV rfl 46 _ rfl b rfl (wc r.s) 46 _ (fun w' hw' => hw'.1) Tryz.underlying46 rfl ah) hHeld ?_
  try simp only [Act.put, jP]
  refine jT 1 (.pointer (some ⟨g.w, q, none⟩)) rfl hHeld ?_
  try simp only [Act.put, jP]
  refine jT 2 (.pointer (some ⟨g.w, q, none⟩)) rfl hHeld ?_
  try simp only [Act.put, jP]
  refine jT 3 (.pointer (some ⟨g.w, q + 2, none⟩)) rfl hHeld ?_
  try simp only [Act.put, jP]
  refine jY 4 (.agg (wc s2)) rfl (yieldsIf_load_mid rfl 46 _ rfl g.w (q + 2) rfl (wc s2).toList _ (fun w' hw' => hw'.2) Tryz.underlying46 rfl ah) hHeld ?_
  try simp only [Act.put, jP]
  refine jR [5] ?_
  refine jC rfl (fun K hK => ?_) jN
  go_simp
  refine HPT.out.mono ?_
  rintro e z10 ⟨rfl, jd⟩
  have hbX : Below z8.heap.size z8 z10 := HB9.out.trans (jd.mono HB9.out.size)
  have HBX := Lib.hid hbX
  refine hK.out _ _ ⟨HX8.out.keep hbX, HRG3.out _ (HP5.out.ha.mu.row.keep hbX)⟩ (fun hHeld => ?_)
  clear hK K jd hbX
  try simp only [Act.put, jP]
  refine wpAnyH_done ah ?_ _
  clear hHeld
  cases pt
  ·have HRGX : RowKit.Hid (z10.rangeAt g.w (q + 2) (wc s2).toList) := Lib.hid (HRG3.out _ (HP5.out.ha.mu.row.keep HBX.out))
   have HPX := Lib.hid (HP5.out.keep HBX.out)
   have HHN : RowKit.Hid ((if false = true then ({ H3 with ev := H3.ev ++ [⟨evE H.tk i d.bg x2.p 3, []⟩] } : HD) else H3) = H3) := Lib.hid (if_neg aL)
   go_wp2_with (first | (refine wpList_load_mid rfl 46 _ rfl g.w (q + 2) rfl (wc s2).toList _ (by exact HRGX.out) Tryz.underlying46 rfl ah ?_))
   by_cases h0 : s2.p.ln = 0
   ·refine (jS s2 (b := true) qa60 _).mono ?_
    rintro e zf ⟨rfl, hbf⟩
    have PF := HPX.out.keep hbf
    have HF0 := hFinish PF.ha i hi3 hi3' qa7f (by rw [HED3.out]; exact ht) (by rw [HED3.out]; show x2.rd.length ≤ 1000; rw [HX2d.out]; exact hrd)
    rw [← HQ.out] at HF0
    have HF := Lib.hid HF0
    clear HF0
    have HPF := Lib.hid PF
    clear PF
    go_wp2_with fail
    refine HF.out.mono ?_
    rintro e zg ⟨rfl, RF, PG⟩
    have HPG := Lib.hid (HPF.out.trans PG)
    clear PG
    go_wp2
    go_end0
    refine ⟨rfl, RF, ?_⟩
    have := HPG.out
    rw [HSF.out, if_pos h0, HHN.out]
    rw [HED3.out, HET3.out] at this
    exact this
   ·refine (jS s2 (b := false) qa60 _).mono ?_
    rintro e zf ⟨rfl, hbf⟩
    have PF := HPX.out.keep hbf
    have HPF := Lib.hid PF
    clear PF
    go_wp2
    go_end0
    refine ⟨rfl, R3, ?_⟩
    rw [HSF.out, if_neg h0, HHN.out]
    exact HPF.out
  ·go_upto_region 7 with fail
   have hz11 : Below z10.heap.size z10 z10.drew := Below.drew (Below.refl _ _)
   refine wp_region_held_drew (S := fun _ => True) ah trivial (fun hHeld => ?_)
   have HB11 := Lib.hid (HBX.out.trans (hz11.mono HBX.out.size))
   clear hz11
   generalize z10.drew = z11 at *
   have y11 : z11.cell? ⟨g.h, 2, none⟩ = some (.slice R3.ev.ad R3.ev.len R3.ev.cap) := by rw [(HP5.out.keep HB11.out).ha.mu.box.cells]; rfl
   have HEV3 := Lib.hid (hEvent (HP5.out.keep HB11.out).ha i hi3 3)
   obtain ⟨e3, he3⟩ : ∃ e, e = evE H3.tk i R3.rs[i].bg R3.rs[i].s.p 3 := ⟨_, rfl⟩
   rw [← he3] at HEV3
   have HE3 : RowKit.Hid (e3 = evE H.tk i d.bg x2.p 3) := Lib.hid (by rw [he3, HER3.out, HET3.out]; show evE _ _ r.bg s2.p 3 = _; rw [HSP.out, HBG.out])
   have he3d : e3.rd = aG := by rw [HE3.out]; rfl
   clear he3
   refine jT 0 (.pointer (some ⟨g.h, 0, none⟩)) rfl hHeld ?_
   try simp only [Act.put, jP]
   refine jT 1 (.pointer (some ⟨g.h, 0, none⟩)) rfl hHeld ?_
   try simp only [Act.put, jP]
   refine jT 2 (.pointer (some ⟨g.h, 0, none⟩)) rfl hHeld ?_
   try simp only [Act.put, jP]
   refine jT 3 (.pointer (some ⟨g.h, 2, none⟩)) rfl hHeld ?_
   try simp only [Act.put, jP]
   refine jT 5 (.pointer (some ⟨g.h, 0, none⟩)) rfl hHeld ?_
   try simp only [Act.put, jP]
   refine jT 6 (.int .i64 (i : Int)) rfl hHeld ?_
   try simp only [Act.put, jP]
   refine jR [4, 7] ?_
   refine jC rfl (fun K hK => ?_) (jC rfl (fun K hK => ?_) jN)
   ·go_simp
    refine hK.out _ _ hHeld (fun hHeld => ?_)
    clear hK K
    try simp only [Act.put, jP]
    refine jR [7] ?_
    refine jC rfl (fun K hK => ?_) jN
    go_simp
    refine HEV3.out.mono ?_
    rintro e z12 ⟨rfl, ig⟩
    have HB12 := Lib.hid (HB11.out.trans (ig.mono HB11.out.size))
    have y12 : z12.cell? ⟨g.h, 2, none⟩ = some (.slice R3.ev.ad R3.ev.len R3.ev.cap) := qa7g
    obtain ⟨gn3, hgn3⟩ : ∃ q, q = z12.heap.size := ⟨_, rfl⟩
    obtain ⟨z13, hz13⟩ : ∃ q, q = z12.alloc (.cells (ec e3) ETy) := ⟨_, rfl⟩
    have HB13 : RowKit.Hid (Below z8.heap.size z8 z13) := Lib.hid qa7h
    have HN3 : RowKit.Hid (Bk z13 gn3 (ec e3) ETy) := Lib.hid qa7i
    have y13 : z13.cell? ⟨g.h, 2, none⟩ = some (.slice R3.ev.ad R3.ev.len R3.ev.cap) := qa7j
    have HZ13 := Lib.hid hz13
    have HGN3 := Lib.hid hgn3
    clear hz13 hgn3 ig
    refine hK.out _ _ trivial (fun hHeld => ?_)
    clear hK K
    try simp only [Act.put, jP]
    refine jR [8] ?_
    refine jC rfl (fun K hK => ?_) jN
    refine dA rfl _ rfl e3 rfl ?_
    rw [← HZ13.out, ← HGN3.out]
    refine hK.out _ _ trivial (fun hHeld => ?_)
    clear hK K
    try simp only [Act.put, jP]
    refine jR [9] ?_
    refine jC rfl (fun K hK => ?_) jN
    have H7 := (HP5.out.keep HB13.out).ha
    refine step_append elemEv rfl _ _ rfl 0 R3.ev.v R3.es.length (evC R3.es) rfl H7.mu.ev gn3 1 1 (ec e3).toList rfl jy (fun j hj => by rw [HN3.out.cells]; simp) (ec_one e3) qa7f (Nat.zero_le _) ?_
    intro v' z14 O3 G3 hy3
    obtain ⟨⟨a9, n9, c9⟩, rfl, hyl⟩ := gI O3
    obtain rfl : n9 = R3.es.length + 1 := hyl
    have X14 : Bk z14 g.h (hC g R3 H3.tk) HTy := eH H7.mu.box (Agr.grown (P := fun b => b = g.h) G3 (fun b hb e => H7.mu.ne_h.2.2.2.1 b (blk_iff.2 e.symm) hb)) rfl
    have HO3 := Lib.hid O3
    have HG3 := Lib.hid G3
    have HY3 := Lib.hid hy3
    have c14 : z14.cell? ⟨g.h, 2, none⟩ = some (.slice R3.ev.ad R3.ev.len R3.ev.cap) := qa7k
    have f14 := X14.frozen
    refine hK.out _ _ trivial (fun hHeld => ?_)
    clear hK K X14 O3 G3 hy3 H7
    try simp only [Act.put, jP]
    refine jT 10 (.pointer (some ⟨g.h, 0, none⟩)) rfl hHeld ?_
    try simp only [Act.put, jP]
    refine jT 11 (.pointer (some ⟨g.h, 2, none⟩)) rfl hHeld ?_
    try simp only [Act.put, jP]
    refine jR [12] ?_
    refine jC rfl (fun K hK => ?_) jN
    go_simp
    refine hK.out _ _ trivial (fun hHeld => ?_)
    clear hK K
    try simp only [Act.put, jP]
    refine wpAnyH_done ah ?_ _
    clear hHeld c14 f14 y11 y12 y13
    have E7 := HP5.out.ha.evApp e3 ⟨e3, []⟩ (y := ⟨a9, R3.es.length + 1, c9⟩) HB13.out ⟨rfl, by rw [he3d]; exact ⟨Reads.nil _ _, .inl rfl⟩⟩ HO3.out HG3.out HY3.out
    obtain ⟨z15, hz15⟩ : ∃ u, u = z14.setCell ⟨g.h, 2, none⟩ (.slice a9 (R3.es.length + 1) c9) := ⟨_, rfl⟩
    obtain ⟨R4, hR4⟩ : ∃ y : HR, y = { R3 with ev := ⟨a9, R3.es.length + 1, c9⟩, es := R3.es ++ [e3] } := ⟨_, rfl⟩
    obtain ⟨H4, hH4⟩ : ∃ y : HD, y = { H3 with ev := H3.ev ++ [⟨e3, []⟩] } := ⟨_, rfl⟩
    have P7 : HP S g c R w R4 H4 z15 := by rw [hR4, hH4, hz15]; exact HP5.out.trans E7
    have HP7 := Lib.hid P7
    have hi4 : i < R4.rs.length := by rw [hR4]; exact hi3
    have hi4' : i < H4.ws.length := by rw [hH4]; exact hi3'
    have HED4 : RowKit.Hid (H4.ws[i] = { d with st := x2 }) := Lib.hid (by simp only [hH4]; exact HED3.out)
    have HES4 : RowKit.Hid (R4.es.length = R2.es.length + 2) := Lib.hid (by rw [hR4]; have := HES3.out; simp; omega)
    have HET4 : RowKit.Hid (H4.tk = H.tk) := Lib.hid (by rw [hH4]; exact HET3.out)
    have HH4 : RowKit.Hid ((if true = true then ({ H3 with ev := H3.ev ++ [⟨evE H.tk i d.bg x2.p 3, []⟩] } : HD) else H3) = H4) := Lib.hid (by rw [if_pos rfl, hH4, HE3.out])
    have HRG4 : RowKit.Hid (z15.rangeAt g.w (q + 2) (wc s2).toList) := Lib.hid (by
     have B := P7.ha.mu.row
     have e : R4.rs = R3.rs := by rw [hR4]
     rw [e] at B
     exact HRG3.out _ B)
    rw [← hz15]
    clear E7 hz15 hR4 hH4 P7
    go_wp2_with (first | (refine wpList_load_mid rfl 46 _ rfl g.w (q + 2) rfl (wc s2).toList _ (by exact HRG4.out) Tryz.underlying46 rfl ah ?_))
    by_cases h0 : s2.p.ln = 0
    ·exact qa1p
    ·exact qa1q
   ·go_simp
    refine HEV3.out.mono ?_
    rintro e z12 ⟨rfl, ig⟩
    have HB12 := Lib.hid (HB11.out.trans (ig.mono HB11.out.size))
    have y12 : z12.cell? ⟨g.h, 2, none⟩ = some (.slice R3.ev.ad R3.ev.len R3.ev.cap) := qa7g
    obtain ⟨gn3, hgn3⟩ : ∃ q, q = z12.heap.size := ⟨_, rfl⟩
    obtain ⟨z13, hz13⟩ : ∃ q, q = z12.alloc (.cells (ec e3) ETy) := ⟨_, rfl⟩
    have HB13 : RowKit.Hid (Below z8.heap.size z8 z13) := Lib.hid qa7h
    have HN3 : RowKit.Hid (Bk z13 gn3 (ec e3) ETy) := Lib.hid qa7i
    have y13 : z13.cell? ⟨g.h, 2, none⟩ = some (.slice R3.ev.ad R3.ev.len R3.ev.cap) := qa7j
    have HZ13 := Lib.hid hz13
    have HGN3 := Lib.hid hgn3
    clear hz13 hgn3 ig
    refine hK.out _ _ trivial (fun hHeld => ?_)
    clear hK K
    try simp only [Act.put, jP]
    refine jR [4, 8] ?_
    refine jC rfl (fun K hK => ?_) (jC rfl (fun K hK => ?_) jN)
    go_simp
    refine hK.out _ _ hHeld (fun hHeld => ?_)
    clear hK K
    try simp only [Act.put, jP]
    refine jR [8] ?_
    refine jC rfl (fun K hK => ?_) jN
    refine dA rfl _ rfl e3 rfl ?_
    rw [← HZ13.out, ← HGN3.out]
    refine hK.out _ _ trivial (fun hHeld => ?_)
    rotate_left
    refine dA rfl _ rfl e3 rfl ?_
    rw [← HZ13.out, ← HGN3.out]
    refine hK.out _ _ trivial (fun hHeld => ?_)
    clear hK K
    try simp only [Act.put, jP]
    refine jR [4] ?_
    refine jC rfl (fun K hK => ?_) jN
    go_simp
    refine hK.out _ _ hHeld (fun hHeld => ?_)
    rotate_left
    all_goals
     clear hK K
     try simp only [Act.put, jP]
     refine jR [9] ?_
     refine jC rfl (fun K hK => ?_) jN
     have H7 := (HP5.out.keep HB13.out).ha
     refine step_append elemEv rfl _ _ rfl 0 R3.ev.v R3.es.length (evC R3.es) rfl H7.mu.ev gn3 1 1 (ec e3).toList rfl jy (fun j hj => by rw [HN3.out.cells]; simp) (ec_one e3) qa7f (Nat.zero_le _) ?_
     intro v' z14 O3 G3 hy3
     obtain ⟨⟨a9, n9, c9⟩, rfl, hyl⟩ := gI O3
     obtain rfl : n9 = R3.es.length + 1 := hyl
     have X14 : Bk z14 g.h (hC g R3 H3.tk) HTy := eH H7.mu.box (Agr.grown (P := fun b => b = g.h) G3 (fun b hb e => H7.mu.ne_h.2.2.2.1 b (blk_iff.2 e.symm) hb)) rfl
     have HO3 := Lib.hid O3
     have HG3 := Lib.hid G3
     have HY3 := Lib.hid hy3
     have c14 : z14.cell? ⟨g.h, 2, none⟩ = some (.slice R3.ev.ad R3.ev.len R3.ev.cap) := qa7k
     have f14 := X14.frozen
     refine hK.out _ _ trivial (fun hHeld => ?_)
     clear hK K X14 O3 G3 hy3 H7
     try simp only [Act.put, jP]
     refine jT 10 (.pointer (some ⟨g.h, 0, none⟩)) rfl hHeld ?_
     try simp only [Act.put, jP]
     refine jT 11 (.pointer (some ⟨g.h, 2, none⟩)) rfl hHeld ?_
     try simp only [Act.put, jP]
     refine jR [12] ?_
     refine jC rfl (fun K hK => ?_) jN
     go_simp
     refine hK.out _ _ trivial (fun hHeld => ?_)
     clear hK K
     try simp only [Act.put, jP]
     refine wpAnyH_done ah ?_ _
     clear hHeld c14 f14 y11 y12 y13
     have E7 := HP5.out.ha.evApp e3 ⟨e3, []⟩ (y := ⟨a9, R3.es.length + 1, c9⟩) HB13.out ⟨rfl, by rw [he3d]; exact ⟨Reads.nil _ _, .inl rfl⟩⟩ HO3.out HG3.out HY3.out
     obtain ⟨z15, hz15⟩ : ∃ u, u = z14.setCell ⟨g.h, 2, none⟩ (.slice a9 (R3.es.length + 1) c9) := ⟨_, rfl⟩
     obtain ⟨R4, hR4⟩ : ∃ y : HR, y = { R3 with ev := ⟨a9, R3.es.length + 1, c9⟩, es := R3.es ++ [e3] } := ⟨_, rfl⟩
     obtain ⟨H4, hH4⟩ : ∃ y : HD, y = { H3 with ev := H3.ev ++ [⟨e3, []⟩] } := ⟨_, rfl⟩
     have P7 : HP S g c R w R4 H4 z15 := by rw [hR4, hH4, hz15]; exact HP5.out.trans E7
     have HP7 := Lib.hid P7
     have hi4 : i < R4.rs.length := by rw [hR4]; exact hi3
     have hi4' : i < H4.ws.length := by rw [hH4]; exact hi3'
     have HED4 : RowKit.Hid (H4.ws[i] = { d with st := x2 }) := Lib.hid (by simp only [hH4]; exact HED3.out)
     have HES4 : RowKit.Hid (R4.es.length = R2.es.length + 2) := Lib.hid (by rw [hR4]; have := HES3.out; simp; omega)
     have HET4 : RowKit.Hid (H4.tk = H.tk) := Lib.hid (by rw [hH4]; exact HET3.out)
     have HH4 : RowKit.Hid ((if true = true then ({ H3 with ev := H3.ev ++ [⟨evE H.tk i d.bg x2.p 3, []⟩] } : HD) else H3) = H4) := Lib.hid (by rw [if_pos rfl, hH4, HE3.out])
     have HRG4 : RowKit.Hid (z15.rangeAt g.w (q + 2) (wc s2).toList) := Lib.hid (by
      have B := P7.ha.mu.row
      have e : R4.rs = R3.rs := by rw [hR4]
      rw [e] at B
      exact HRG3.out _ B)
     rw [← hz15]
     clear E7 hz15 hR4 hH4 P7
     go_wp2_with (first | (refine wpList_load_mid rfl 46 _ rfl g.w (q + 2) rfl (wc s2).toList _ (by exact HRG4.out) Tryz.underlying46 rfl ah ?_))
     by_cases h0 : s2.p.ln = 0
     ·exact qa1p
     ·exact qa1q
end Go.Proofs.YtaiodbcnbcdokaaGreat.Ha
