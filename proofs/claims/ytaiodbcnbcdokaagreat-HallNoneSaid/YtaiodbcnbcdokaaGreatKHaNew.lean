/- Part HaNew. -/
import Derived.Test.YtaiodbcnbcdokaaGreatKHaClone
set_option linter.unusedVariables false
set_option linter.unusedSimpArgs false
set_option linter.unusedSectionVars false
set_option maxRecDepth 100000
set_option maxHeartbeats 16000000
namespace Go.Proofs.YtaiodbcnbcdokaaGreat.Ha
open Go Go.RowKit Go.ChangeMaps Gro Own Wd Ap Go.Proofs.YtaiodbcnbcdokaaGreat.Pl Wo Me Shp Opn Opw Scw
section
variable {S : Nat → Prop} {w w' : World} {g : HG} {c : Cfg} {R : HR} {H : HD}
theorem wsC_pg (rs : List WkR) (i : Nat) (y : Sl) (hi : i < rs.length) : (wsC rs).setIfInBounds (36 * i) y.v = wsC (rs.set i { rs[i] with pg := y }) := wsC_sub rs i 0 [y.v] _ hi aF rfl
theorem HP.pg (h : HA S w g c R H) {i : Nat} (hi : i < R.rs.length) (hi' : i < H.ws.length) (y : Sl) (l : List OpD) (A : RdO (fun b => S b ∧ ¬ dz g R b) w y l) :
  HP S g c R w { R with rs := R.rs.set i { R.rs[i] with pg := y } } { H with ws := H.ws.set i { H.ws[i] with prog := l } } (w.setCell ⟨g.w, 36 * i, none⟩ y.v) := by
 have a := Agr.cell (P := fun b => S b ∧ ¬ dz g R b) (w := w) (g := g.w) (j := 36 * i) (v := y.v) (fun q => q.2 (.inr (.inr (.inr (.inl rfl)))))
 have k := (h.ls.wk i hi hi').agr a
 have hrow := h.mu.row.setCell (36 * i) y.v
 rw [wsC_pg R.rs i y hi] at hrow
 exact HP.of (h.wrow hi { R.rs[i] with pg := y } { H.ws[i] with prog := l } rfl (fun _ => rfl) (Agr.cell (fun q => q rfl)) hrow ⟨A.agr a, k.bg, k.st⟩) (Fr.cell (.inr (.inr (.inr (.inl rfl))))) (fun b q => mutB_setR (r := { R.rs[i] with pg := y }) hi rfl b q) aF
end
def wk0 : WkR := ⟨aG, 0, wz, aG⟩
def hd0 (c : Cfg) : HD := ⟨a0, dW c, List.replicate c.ww.toNat ⟨[], 0, zS, []⟩, [], 0⟩
def hdN (c : Cfg) (p : List (List OpD)) (n : Nat) : HD := ⟨a0, dW c, (List.range c.ww.toNat).map fun i => ⟨if i < n then p.getD i [] else [], 0, zS, []⟩, [], 0⟩
theorem hdN_0 (c : Cfg) (p : List (List OpD)) : hdN c p 0 = hd0 c := by
 unfold hdN hd0
 congr 1
 simp [List.map_const']
theorem hdN_len (c : Cfg) (p : List (List OpD)) (n : Nat) : (hdN c p n).ws.length = c.ww.toNat := by simp [hdN]
theorem hdN_at (c : Cfg) (p : List (List OpD)) (n i : Nat) (h : i < (hdN c p n).ws.length) : (hdN c p n).ws[i] = ⟨if i < n then p.getD i [] else [], 0, zS, []⟩ := by simp [hdN]
theorem hdN_succ (c : Cfg) (p : List (List OpD)) (n : Nat) (h : n < (hdN c p n).ws.length) (hn : n < p.length) : { hdN c p n with ws := (hdN c p n).ws.set n { (hdN c p n).ws[n] with prog := p[n] } } = hdN c p (n + 1) := by
 have e : (hdN c p n).ws.set n { (hdN c p n).ws[n] with prog := p[n] } = (hdN c p (n + 1)).ws := by
  apply List.ext_getElem
  ·simp [hdN]
  ·intro i h1 h2
   rw [List.getElem_set, hdN_at c p (n + 1) i h2]
   by_cases q : n = i
   ·subst q
    rw [if_pos rfl, if_pos aj, List.getD_eq_getElem?_getD, List.getElem?_eq_getElem hn, hdN_at]
    rfl
   ·rw [if_neg q, hdN_at c p n i (by simpa using h1)]
    by_cases q2 : i < n
    ·rw [if_pos q2, if_pos aj]
    ·rw [if_neg q2, if_neg aj]
 show HD.mk _ _ _ _ _ = _
 rw [e]
 rfl
theorem mkW0 (w : World) : (Instr.makeSlice 100 (.int .i64 0) (.int .i64 0)).run Tryz.prog w = .ok (.slice (some ⟨w.heap.size, 0, none⟩) 0 0) (w.alloc (.cells (wsC (List.replicate 0 wk0)) WTy)) := ah
theorem mkW1 (w : World) : (Instr.makeSlice 100 (.int .i64 1) (.int .i64 1)).run Tryz.prog w = .ok (.slice (some ⟨w.heap.size, 0, none⟩) 1 1) (w.alloc (.cells (wsC (List.replicate 1 wk0)) WTy)) := ah
theorem mkW2 (w : World) : (Instr.makeSlice 100 (.int .i64 2) (.int .i64 2)).run Tryz.prog w = .ok (.slice (some ⟨w.heap.size, 0, none⟩) 2 2) (w.alloc (.cells (wsC (List.replicate 2 wk0)) WTy)) := ah
theorem mkW3 (w : World) : (Instr.makeSlice 100 (.int .i64 3) (.int .i64 3)).run Tryz.prog w = .ok (.slice (some ⟨w.heap.size, 0, none⟩) 3 3) (w.alloc (.cells (wsC (List.replicate 3 wk0)) WTy)) := ah
theorem mkW4 (w : World) : (Instr.makeSlice 100 (.int .i64 4) (.int .i64 4)).run Tryz.prog w = .ok (.slice (some ⟨w.heap.size, 0, none⟩) 4 4) (w.alloc (.cells (wsC (List.replicate 4 wk0)) WTy)) := ah
theorem mkW5 (w : World) : (Instr.makeSlice 100 (.int .i64 5) (.int .i64 5)).run Tryz.prog w = .ok (.slice (some ⟨w.heap.size, 0, none⟩) 5 5) (w.alloc (.cells (wsC (List.replicate 5 wk0)) WTy)) := ah
theorem mkW6 (w : World) : (Instr.makeSlice 100 (.int .i64 6) (.int .i64 6)).run Tryz.prog w = .ok (.slice (some ⟨w.heap.size, 0, none⟩) 6 6) (w.alloc (.cells (wsC (List.replicate 6 wk0)) WTy)) := ah
theorem mkW7 (w : World) : (Instr.makeSlice 100 (.int .i64 7) (.int .i64 7)).run Tryz.prog w = .ok (.slice (some ⟨w.heap.size, 0, none⟩) 7 7) (w.alloc (.cells (wsC (List.replicate 7 wk0)) WTy)) := ah
theorem mkW8 (w : World) : (Instr.makeSlice 100 (.int .i64 8) (.int .i64 8)).run Tryz.prog w = .ok (.slice (some ⟨w.heap.size, 0, none⟩) 8 8) (w.alloc (.cells (wsC (List.replicate 8 wk0)) WTy)) := ah
theorem make_ws {ops : Array Oper} {rest : List Oper} {o : Oper} {a : Act} {w : World} {Q : Exit → Act → World → Prop} (hg : o.guard = none) (l c : Operand) (ho : o.op = .makeSlice 100 l c)
  (n : Nat) (hl : a.eval l = .int .i64 (n : Int)) (hc : a.eval c = .int .i64 (n : Int)) (hn : n ≤ 8)
  (h : wpList Tryz.prog ops Q rest (a.put o.dst (.slice (some ⟨w.heap.size, 0, none⟩) n n)) (w.alloc (.cells (wsC (List.replicate n wk0)) WTy))) : wpList Tryz.prog ops Q (o :: rest) a w := by
 have hr : (Instr.makeSlice 100 (.int .i64 (n : Int)) (.int .i64 (n : Int))).run Tryz.prog w = .ok (.slice (some ⟨w.heap.size, 0, none⟩) n n) (w.alloc (.cells (wsC (List.replicate n wk0)) WTy)) := by
  match n, hn with
  | 0, _ => exact mkW0 w
  | 1, _ => exact mkW1 w
  | 2, _ => exact mkW2 w
  | 3, _ => exact mkW3 w
  | 4, _ => exact mkW4 w
  | 5, _ => exact mkW5 w
  | 6, _ => exact mkW6 w
  | 7, _ => exact mkW7 w
  | 8, _ => exact mkW8 w
  | n + 9, h => omega
 refine wpList_plain hg fun K hK' => ?_
 unfold Oper.wp
 simp [execOp, ho, hl, hc, hr, Result.andThen]
 exact hK' _ _ h
theorem build_hall (m b n : Nat) (w : World) : (Instr.build HTy #[(0, .pointer (some ⟨m, 0, none⟩)), (1, .slice (some ⟨b, 0, none⟩) n n)]).run Tryz.prog w = .ok (.agg #[.pointer (some ⟨m, 0, none⟩), .slice (some ⟨b, 0, none⟩) n n, .slice none 0 0, .int .i64 0]) w := run_build w _ _ _ ah
structure NewH (c : Cfg) (p : List (List OpD)) (w : World) (g : HG) (R : HR) (w' : World) : Prop where
 ha : HA (fun b => w.heap.size ≤ b ∧ b < w'.heap.size) w' g c R (hdN c p p.length)
 below : Below w.heap.size w w'
theorem nil_own {w : World} {e : TypeId} {n : Nat} : w.ownsRow 0 e n aG.v 0 [] := World.ownsRow_nil _ _ _ _
theorem not_blk {b : Nat} : ¬ blk aG b := fun ⟨d, hd, _⟩ => by cases hd
theorem rdP_nil {P : Nat → Prop} {w : World} {k : IntKind} : RdP P w k aG [] := ⟨Reads.nil _ _, .inl rfl⟩
theorem lies_wz {P : Nat → Prop} {w : World} : aM P w wz zS := ⟨rfl, rdP_nil, rdP_nil, rdP_nil, rdP_nil, rdP_nil, rdP_nil⟩
theorem rdO_nil {P : Nat → Prop} {w : World} : RdO P w aG [] := ⟨⟨none, 0, rfl, Nat.le_refl _, by unfold maxLen; omega, .inl rfl⟩, .inl rfl⟩
theorem ha_new {c : Cfg} {p : List (List OpD)} {w w5 : World} {g : HG} {nw : Nat} (hnw : c.ww.toNat = nw) (hm : g.m ≠ g.l)
  (hb : Bk w5 g.h #[.pointer (some ⟨g.m, 0, none⟩), .slice (some ⟨g.w, 0, none⟩) nw nw, .slice none 0 0, .int .i64 0] HTy) (hM : aC 0 w5 g.m c a0 g.l g.cap (dW c)) (hr : Bk w5 g.w (wsC (List.replicate nw wk0)) WTy)
  (h1 : w.heap.size ≤ g.h ∧ w.heap.size ≤ g.m ∧ w.heap.size ≤ g.l ∧ w.heap.size ≤ g.w) : HA (fun b => w.heap.size ≤ b ∧ b < w5.heap.size) w5 g c ⟨List.replicate nw wk0, aG, []⟩ (hdN c p 0) := by
 have lm := hM.lt
 have lh := hb.lt
 have lr := hr.lt
 have ws0 : (hdN c p 0).ws = List.replicate nw ⟨[], 0, zS, []⟩ := by
  rw [hdN_0]
  unfold hd0
  rw [hnw]
 refine ⟨⟨by simp [ws0], fun i q q' => ?_, rfl, fun i q q' => absurd q (Nat.not_lt_zero i)⟩, ⟨?_, hM, hr, nil_own, fun i q q' => ?_, fun i q => ?_, fun i j q q' b _ hbk => ?_⟩, fun b q => ?_, fun b q => q.2⟩
 ·have e1 : (List.replicate nw wk0)[i] = wk0 := by simp
  have e2 : (hdN c p 0).ws[i] = ⟨[], 0, zS, []⟩ := by simp [ws0]
  show WkA _ _ (List.replicate nw wk0)[i] _
  rw [e1, e2]
  exact ⟨rdO_nil, rfl, lies_wz⟩
 ·have e : hC g ⟨List.replicate nw wk0, aG, []⟩ (hdN c p 0).tk = #[.pointer (some ⟨g.m, 0, none⟩), .slice (some ⟨g.w, 0, none⟩) nw nw, .slice none 0 0, .int .i64 0] := by
   unfold hC
   simp [hdN, aG]
  rw [e]
  exact hb
 ·have e1 : (List.replicate nw wk0)[i]'q = wk0 := by simp
  have e2 : (hdN c p 0).ws[i] = ⟨[], 0, zS, []⟩ := by simp [ws0]
  show World.ownsRow _ 0 UTy 1 ((List.replicate nw wk0)[i]'q).td.v (hdN c p 0).ws[i].told.length _
  rw [e1, e2]
  exact nil_own
 ·have e1 : (List.replicate nw wk0)[i]'q = wk0 := by simp
  show ¬ blk ((List.replicate nw wk0)[i]'q).td g.l
  rw [e1]
  exact not_blk
 ·have e1 : (List.replicate nw wk0)[i]'q = wk0 := by simp
  have hbk' : blk ((List.replicate nw wk0)[i]'q).td b := hbk
  rw [e1] at hbk'
  exact absurd hbk' not_blk
 ·rcases q with q | q | q | q | q | q
  ·subst q; exact ⟨h1.1, lh⟩
  ·subst q; exact ⟨h1.2.1, lm.1⟩
  ·subst q; exact ⟨h1.2.2.1, lm.2⟩
  ·subst q; exact ⟨h1.2.2.2, lr⟩
  ·exact absurd q not_blk
  ·obtain ⟨r, hr', hbk⟩ := q
   have : r = wk0 := List.eq_of_mem_replicate hr'
   subst this
   exact absurd hbk not_blk
theorem hNew_no (c : Cfg) (W : c.Wf) (ap : Option Addr) (p : List (List OpD)) (cp : Nat) (w : World) (RP : iL w (.slice ap p.length cp) p) (hk : ckF c p ≠ 0) :
  Calls Tryz.prog 32 #[cv c, .slice ap p.length cp] w fun e w' => e = .returned (.tuple #[.pointer none, .int .i64 (ckF c p)]) ∧ Below w.heap.size w w' := by
 obtain ⟨w1, hw1⟩ : ∃ q, q = w.alloc (.cells (dZ c) 24) := ⟨_, rfl⟩
 have X1 : Bk w1 w.heap.size (dZ c) 24 := qa7q
 have b1 : Below w.heap.size w w1 := qa7r
 have HC := Lib.hid (hCheck c W ap p cp w1 (RP.keep b1))
 have HX := Lib.hid X1
 have HB := Lib.hid b1
 obtain ⟨k, hkk⟩ : ∃ k, k = ckF c p := ⟨_, rfl⟩
 rw [← hkk] at HC hk ⊢
 have hq : (k != 0) = true := by simp [hk]
 clear RP b1 X1 hkk hk
 go_enter Tryz.func32, Tryz.ntmps32
 go_upto_region 1 with fail
 rw [show w.alloc (.cells #[.int .i64 c.ww, .int .i64 c.sl, .int .i64 c.bl, .int .i64 c.wd, .int .i64 c.en, .int .i64 c.rk, .int .i64 c.bg, .int .u64 c.la] 24) = w1 from hw1.symm]
 clear hw1
 go_wp2_with (first | (refine wpList_load_row rfl 24 _ rfl w.heap.size rfl _ (dZ c) (0, 0) _ (by exact HX.out) Tryz.underlying24 rfl ah ?_))
 refine HC.out.mono ?_
 rintro e w2 ⟨rfl, hb2⟩
 have HB2 := Lib.hid (HB.out.trans (hb2.mono HB.out.size))
 clear hb2
 go_wp2_with fail
 go_ret2
 exact ⟨rfl, HB2.out⟩
theorem hNew_ok (c : Cfg) (W : c.Wf) (ap : Option Addr) (p : List (List OpD)) (cp : Nat) (w : World) (RP : iL w (.slice ap p.length cp) p) (hk : ckF c p = 0) :
  Calls Tryz.prog 32 #[cv c, .slice ap p.length cp] w fun e w' => ∃ g R, e = .returned (.tuple #[.pointer (some ⟨g.h, 0, none⟩), .int .i64 0]) ∧ NewH c p w g R w' := by
 obtain ⟨w1, hw1⟩ : ∃ q, q = w.alloc (.cells (dZ c) 24) := ⟨_, rfl⟩
 have X1 : Bk w1 w.heap.size (dZ c) 24 := qa7q
 have b1 : Below w.heap.size w w1 := qa7r
 have HC := Lib.hid (hCheck c W ap p cp w1 (RP.keep b1))
 have HX := Lib.hid X1
 have HB := Lib.hid b1
 have HRP := Lib.hid RP
 have hpl := (iL.len RP).2
 unfold maxLen at hpl
 rw [hk] at HC
 have hc0 : chk c = 0 := by
  by_cases q : chk c = 0
  ·exact q
  ·rw [ck_eq, if_pos q] at hk; exact absurd hk q
 have hok := fK.1 hc0
 have hww := hok.ww
 have hpw : (p.length : Int) ≤ c.ww := by
  rw [ck_eq, if_neg (fun z => z hc0)] at hk
  split at hk
  ·exact absurd hk aL
  ·omega
 have hp200 : ∀ l ∈ p, l.length ≤ 200 := by
  rw [ck_eq, if_neg (fun z => z hc0), if_neg aj] at hk
  intro l hl
  by_cases q : l.length ≤ 200
  ·exact q
  ·rw [if_pos (List.any_eq_true.2 ⟨l, hl, by simp; omega⟩)] at hk
   exact absurd hk aL
 have HP200 := Lib.hid hp200
 have HNM := Lib.hid (fun w => newMem_ok c W hok w)
 obtain ⟨nw, hnw⟩ : ∃ n : Nat, c.ww = n := ⟨c.ww.toNat, by omega⟩
 have hnw8 : nw ≤ 8 := aj
 have HNW : RowKit.Hid (c.ww.toNat = nw) := Lib.hid aj
 have hpn : p.length ≤ nw := aj
 have HWW := Lib.hid hnw
 clear RP b1 X1 hk hc0 hok hww hp200 hnw hpw
 go_enter Tryz.func32, Tryz.ntmps32
 go_upto_region 1 with fail
 rw [show w.alloc (.cells #[.int .i64 c.ww, .int .i64 c.sl, .int .i64 c.bl, .int .i64 c.wd, .int .i64 c.en, .int .i64 c.rk, .int .i64 c.bg, .int .u64 c.la] 24) = w1 from hw1.symm]
 clear hw1
 go_wp2_with (first | (refine wpList_load_row rfl 24 _ rfl w.heap.size rfl _ (dZ c) (0, 0) _ (by exact HX.out) Tryz.underlying24 rfl ah ?_))
 refine HC.out.mono ?_
 rintro e w2 ⟨rfl, hb2⟩
 have X2 := Lib.hid (HX.out.keep hb2)
 have HB2 := Lib.hid (HB.out.trans (hb2.mono HB.out.size))
 clear hb2
 go_wp2_with (first | (refine wpList_load_row rfl 24 _ rfl w.heap.size rfl _ (dZ c) (0, 0) _ (by exact X2.out) Tryz.underlying24 rfl ah ?_))
 refine (HNM.out w2).mono ?_
 rintro e w3 ⟨gm, gl, cap, rfl, M3, hb3⟩
 have HB3 := Lib.hid (HB2.out.trans (hb3.mono HB2.out.size))
 have X3 := X2.out.keep hb3
 have x3 : w3.cell? ⟨w.heap.size, 0, none⟩ = some (.int .i64 (nw : Int)) := by rw [X3.cells, ← HWW.out]; rfl
 have l3 := X3.lt
 obtain ⟨gw, hgw⟩ : ∃ q, q = w3.heap.size := ⟨_, rfl⟩
 obtain ⟨w4, hw4⟩ : ∃ q, q = w3.alloc (.cells (wsC (List.replicate nw wk0)) WTy) := ⟨_, rfl⟩
 obtain ⟨gh, hgh⟩ : ∃ q, q = w4.heap.size := ⟨_, rfl⟩
 obtain ⟨w5, hw5⟩ : ∃ q, q = w4.alloc (.cells #[.pointer (some ⟨gm, 0, none⟩), .slice (some ⟨gw, 0, none⟩) nw nw, .slice none 0 0, .int .i64 0] HTy) := ⟨_, rfl⟩
 have s2 := HB2.out.size
 have s3 := hb3.size
 have b4 : Below w3.heap.size w3 w4 := qa7s
 have b5 : Below w4.heap.size w4 w5 := by rw [hw5]; exact (Below.refl _ _).alloc (Nat.le_refl _) _
 have s4 := b4.size
 have BW : Bk w4 gw (wsC (List.replicate nw wk0)) WTy := by rw [hw4, hgw]; exact Bk.new _ _ _
 have BH : Bk w5 gh #[.pointer (some ⟨gm, 0, none⟩), .slice (some ⟨gw, 0, none⟩) nw nw, .slice none 0 0, .int .i64 0] HTy := by rw [hw5, hgh]; exact Bk.new _ _ _
 have M5 : aC 0 w5 gm c a0 gl cap (dW c) := by
  have q := (M3.keep b4).keep b5
  exact ⟨q.B, ⟨q.W.1, q.W.2.imp_right fun ⟨g, cap, cur, h1, h2, r⟩ => ⟨g, cap, cur, h1, Nat.zero_le _, r⟩⟩, Nat.zero_le _, q.ne⟩
 have hgl : w.heap.size ≤ gl := by
  rcases M3.W.2 with ⟨e1, _⟩ | ⟨g9, cap9, cur9, e1, e2, _⟩
  ·simp at e1
  ·simp only [Value.slice.injEq, Option.some.injEq, Addr.mk.injEq] at e1
   omega
 have hgm : w.heap.size ≤ gm := by have := M3.g0; omega
 have HA5 := Lib.hid (ha_new (c := c) (p := p) (w := w) (w5 := w5) (g := ⟨gh, gm, gl, gw, cap⟩) HNW.out M5.ne BH M5 (BW.keep b5) ⟨by simp only; omega, hgm, hgl, by simp only; omega⟩)
 have HB5 : RowKit.Hid (Below w.heap.size w w5) := Lib.hid ((HB3.out.trans (b4.mono HB3.out.size)).trans (b5.mono aj))
 have HW4 := Lib.hid hw4
 have HW5 := Lib.hid hw5
 have HGW := Lib.hid hgw
 have HGH := Lib.hid hgh
 have bh := fun w => build_hall gm gw nw w
 clear hb3 M3 X3 hgw hw4 hgh hw5 b4 b5 BW BH M5 s2 s3 s4 hgl hgm
 go_wp2_with (first | (refine make_ws rfl _ _ rfl nw rfl rfl hnw8 ?_; rw [← HW4.out, ← HGW.out]) | fail)
 rw [← HW5.out, ← HGH.out]
 clear x3 l3 bh
 go_wp2_with fail
 go_loopw [34] (fun i wr => ∃ k : Nat, k ≤ p.length ∧ i = .int .i64 (k : Int) ∧ ∃ Rk, RowKit.Hid (HP (fun b => w.heap.size ≤ b ∧ b < w5.heap.size) ⟨gh, gm, gl, gw, cap⟩ c ⟨List.replicate nw wk0, aG, []⟩ w5 Rk (hdN c p k) wr) ∧ RowKit.Hid (Rk.rs.length = nw)) (fun i _ => p.length - (intOf i).toNat)
 case atStart => exact ⟨0, Nat.zero_le _, rfl, _, Lib.hid (HP.refl HA5.out), Lib.hid aF⟩
 case round =>
  obtain ⟨k, hk, rfl, Rk, HPN, HRL⟩ := hrel
  obtain ⟨w6, hw6⟩ : ∃ q, q = wr := ⟨_, rfl⟩
  subst hw6
  by_cases hlt : k < p.length
  ·obtain ⟨_, _, he, _, _, hrp⟩ := HRP.out
   injection he with he1 _ he2
   subst he1 he2
   rcases hrp with hrp | ⟨b, off, rfl, hbl, hcell⟩
   ·rw [hrp] at hlt; cases hlt
   have B6 : Below w.heap.size w w6 := HB5.out.trans ((HPN.out.fr.belowB (fun b m => (HA5.out.sub b m).1) HB5.out.size))
   obtain ⟨u, hu1, hu2⟩ := hcell k hlt
   have q1 := (B6.cell (p := ⟨b, off + k, none⟩) hbl).trans hu1
   have HU := Lib.hid (hu2.keep B6)
   obtain ⟨al, cl, rfl, hl1, hl2, _⟩ := hu2
   have hl200 := HP200.out p[k] (List.getElem_mem hlt)
   obtain ⟨ln, hln⟩ : ∃ q, q = p[k].length := ⟨_, rfl⟩
   rw [← hln] at q1 hl1 hl200
   have HLN := Lib.hid hln
   unfold maxLen at hl2
   clear hu1 hcell hln
   go_upto_region 11 with fail
   have hz0 : Below w6.heap.size w6 w6.drew := Below.drew (Below.refl _ _)
   have x1 : w6.drew.cell? ⟨gh, 1, none⟩ = some (.slice (some ⟨gw, 0, none⟩) nw nw) := by rw [(HPN.out.keep hz0).ha.mu.box.cells]; show some (Value.slice (some ⟨gw, 0, none⟩) Rk.rs.length Rk.rs.length) = _; rw [HRL.out]
   refine wp_region_held_drew (S := fun w' => w'.cell? ⟨gh, 1, none⟩ = some (.slice (some ⟨gw, 0, none⟩) nw nw)) ah x1 (fun hHeld => ?_)
   have HCL := Lib.hid (cloneO (v := ⟨al, ln, cl⟩) (L := p[k]) (by rw [← HLN.out]; omega) (w := w6.drew) (by have := HU.out.keep hz0; rw [← HLN.out] at this; exact this))
   generalize w6.drew = z0 at *
   have HZ0 := Lib.hid hz0
   have hmi : k * 36 = 36 * k := Nat.mul_comm _ _
   have hkn : k < nw := aj
   clear hz0 q1 x1 B6
   refine jT 0 (.pointer (some ⟨gh, 0, none⟩)) rfl hHeld ?_
   try simp only [Act.put, jP]
   refine jT 1 (.pointer (some ⟨gh, 0, none⟩)) rfl hHeld ?_
   try simp only [Act.put, jP]
   refine jT 2 (.pointer (some ⟨gh, 1, none⟩)) rfl hHeld ?_
   try simp only [Act.put, jP]
   refine jY 3 (.slice (some ⟨gw, 0, none⟩) nw nw) rfl (Or.inl ⟨by rfl, fun w' hSw => by have xx := hSw; go_simp⟩) hHeld ?_
   try simp only [Act.put, jP]
   refine jT 4 (.int .i64 (k : Int)) rfl hHeld ?_
   try simp only [Act.put, jP]
   refine jT 5 (.slice al ln cl) rfl hHeld ?_
   try simp only [Act.put, jP]
   refine jR [6] ?_
   refine jC rfl (fun K hK => ?_) jN
   go_simp
   refine HCL.out.mono ?_
   rintro e z1 ⟨y, rfl, OY, hb1⟩
   have c1 := (HPN.out.keep (HZ0.out.trans (hb1.mono HZ0.out.size))).ha.mu.box.cells 1
   have HB1 := Lib.hid (HZ0.out.trans (hb1.mono HZ0.out.size))
   have HOY := Lib.hid OY
   have x1 : z1.cell? ⟨gh, 1, none⟩ = some (.slice (some ⟨gw, 0, none⟩) nw nw) := by rw [c1]; show some (Value.slice (some ⟨gw, 0, none⟩) Rk.rs.length Rk.rs.length) = _; rw [HRL.out]
   refine hK.out _ _ x1 (fun hHeld => ?_)
   clear hK K OY hb1 c1
   try simp only [Act.put, jP]
   refine jT 7 (.pointer (some ⟨gw, 36 * k, none⟩)) rfl hHeld ?_
   try simp only [Act.put, jP]
   refine jT 8 (.pointer (some ⟨gw, 36 * k, none⟩)) rfl hHeld ?_
   try simp only [Act.put, jP]
   refine jR [9] ?_
   refine jC rfl (fun K hK => ?_) jN
   have P1 := HPN.out.keep HB1.out
   have fr := P1.ha.mu.row.frozen
   have xw : ∃ v, z1.cell? ⟨gw, 36 * k, none⟩ = some v := by
    have hk : k < Rk.rs.length := by have := HRL.out; omega
    rw [P1.ha.mu.row.cells (36 * k), show 36 * k = 36 * k + 0 from rfl, jw Rk.rs k 0 hk aj]
    exact ⟨_, rfl⟩
   obtain ⟨v0, xw⟩ := xw
   have lgw := P1.ha.mu.row.lt
   go_simp
   have x2 : (z1.setCell ⟨gw, 36 * k, none⟩ (.slice y.ad y.len y.cap)).cell? ⟨gh, 1, none⟩ = some (.slice (some ⟨gw, 0, none⟩) nw nw) := (World.cell?_of_block (heap_setCell_other z1 ⟨gw, 36 * k, none⟩ gh _ (fun e => P1.ha.mu.ne_w.2.2.1 e))).trans x1
   refine hK.out _ _ x2 (fun hHeld => ?_)
   clear hK K
   try simp only [Act.put, jP]
   refine wpAnyH_done ah ?_ _
   clear hHeld
   obtain ⟨z2, hz2⟩ : ∃ u, u = z1.setCell ⟨gw, 36 * k, none⟩ (.slice y.ad y.len y.cap) := ⟨_, rfl⟩
   have hk1 : k < Rk.rs.length := by have := HRL.out; omega
   have hk2 : k < (hdN c p k).ws.length := by rw [hdN_len, HNW.out]; omega
   have P2 := HPN.out.keep HB1.out
   have Q := HP.pg P2.ha hk1 hk2 y p[k] (by
    refine ⟨gL.of_own (by rw [HLN.out] at *; exact HOY.out), .inr fun d hd => ?_⟩
    have hge : z0.heap.size ≤ d.block ∧ d.block < z1.heap.size := by
     rcases HOY.out.2 with ⟨e1, _⟩ | ⟨g9, cap9, cur9, e1, e2, e3, _⟩
     ·simp only [Sl.v, Value.slice.injEq] at e1; rw [e1.1] at hd; cases hd
     ·simp only [Sl.v, Value.slice.injEq] at e1; rw [e1.1] at hd; cases hd; exact ⟨e2, (Array.getElem?_eq_some_iff.1 e3).1⟩
    have s0 := HPN.out.fr.size
    have s1 := HZ0.out.size
    have lt := HPN.out.ha.lt d.block
    refine ⟨.inr ⟨by omega, hge.2⟩, fun m => ?_⟩
    have := lt (HPN.out.ha.sub d.block m)
    omega)
   obtain ⟨R9, hR9⟩ : ∃ R9 : HR, R9 = { Rk with rs := Rk.rs.set k { Rk.rs[k] with pg := y } } := ⟨_, rfl⟩
   have hrl9 : R9.rs.length = nw := by rw [hR9]; simp only [List.length_set]; exact HRL.out
   have R3 : HP (fun b => w.heap.size ≤ b ∧ b < w5.heap.size) ⟨gh, gm, gl, gw, cap⟩ c ⟨List.replicate nw wk0, aG, []⟩ w5 R9 (hdN c p (k + 1)) z2 := by
    have q := P2.trans Q
    rw [hdN_succ c p k hk2 hlt] at q
    rw [hz2, hR9]
    exact q
   rw [← hz2]
   have HR3 := Lib.hid R3
   have HRL9 := Lib.hid hrl9
   clear hz2 P2 Q R3 hrl9 hR9
   go_wp2
   go_roundw
   case rel => exact ⟨k + 1, by omega, by go_num, R9, HR3, HRL9⟩
   case measure => simp [intOf]; omega
  ·obtain rfl : k = p.length := by omega
   go_wp2_with fail
   go_ret2
   have hs := HPN.out.ha
   exact ⟨⟨gh, gm, gl, gw, cap⟩, Rk, rfl, ⟨hs.wider (fun b q => by
    rcases q with q | q
    ·exact ⟨q.1, Nat.lt_of_lt_of_le q.2 HPN.out.fr.size⟩
    ·exact ⟨Nat.le_trans HB5.out.size q.1, q.2⟩) (fun b q => q.2), HB5.out.trans (HPN.out.fr.belowB (fun b m => (HA5.out.sub b m).1) HB5.out.size)⟩⟩
end Go.Proofs.YtaiodbcnbcdokaaGreat.Ha
