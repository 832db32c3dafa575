/- Part HallNoneWalk. -/
import Derived.Test.YtaiodbcnbcdokaaGreatKHaAw15
set_option linter.unusedVariables false
set_option linter.unusedSimpArgs false
set_option linter.unusedSectionVars false
set_option maxRecDepth 100000
set_option maxHeartbeats 16000000
namespace Go.Proofs.YtaiodbcnbcdokaaGreat.Ha
open Go Go.RowKit Go.ChangeMaps Gro Own Wd Ap Go.Proofs.YtaiodbcnbcdokaaGreat.Pl Wo Me Shp Opn Opw Scw
theorem yieldsIf_rowW {P : Program} {ops : Array Oper} {S : World → Prop} {a : Act} {o : Oper} (hgw : Region.wanted o (yielded ops a.tmps) = true) (ty : TypeId) (x : Operand) (ho : o.op = .load ty x) (g : Nat) (hx : a.eval x = .pointer (some ⟨g, 0, none⟩)) (cs : Array Value) (t : TypeId) (d : TypeDesc)
  (hC : ∀ w, S w → Bk w g cs t) (hu : P.underlying ty = some d) (hd : (match d with | .struct _ | .array _ _ => true | _ => false) = true) (hi : (P.info? ty).map (·.size) = some cs.size) : YieldsIf P ops S o (.agg cs) a := by
 refine Or.inl ⟨hgw, fun w hw => ?_⟩
 unfold execOp
 simp only [ho, hx, Instr.loadAt, Instr.sureAddr, Sem.run_bind, Sem.run_pure, Result.andThen_ok, run_loadVar_row w g t ty cs (0, 0) d (hC w hw) hu hd hi]
theorem fAlike {s t : Wk} {x : St} {w : World} (hs : aP w s x) (ht : aP w t x) : Calls Tryz.prog 30 #[wv s, wv t] w fun e w' => e = .returned (.bool true) ∧ Below w.heap.size w w' := by
 obtain ⟨w1, hw1⟩ : ∃ q, q = w.alloc (.cells (wc s) 46) := ⟨_, rfl⟩
 have X1 : Bk w1 w.heap.size (wc s) 46 := by rw [hw1]; exact Bk.new _ _ _
 have B1 : Below w.heap.size w w1 := qa7r
 obtain ⟨w2, hw2⟩ : ∃ q, q = w1.alloc (.cells (wc t) 46) := ⟨_, rfl⟩
 have B12 : Below w1.heap.size w1 w2 := by rw [hw2]; exact (Below.refl _ _).alloc (Nat.le_refl _) _
 have X2 := X1.keep B12
 have Y2 : Bk w2 w1.heap.size (wc t) 46 := by rw [hw2]; exact Bk.new _ _ _
 have B2 := B1.trans (B12.mono B1.size)
 have e1 : w1.heap.size = w.heap.size + 1 := by rw [hw1]; simp
 rw [e1] at Y2
 have HS := Lib.hid (refSame (hs.keep B2) (ht.keep B2))
 have HX := Lib.hid X2
 have HY := Lib.hid Y2
 have HB := Lib.hid B2
 have HW1 := Lib.hid hw1
 have HW2 := Lib.hid hw2
 clear hs ht hw1 X1 B1 hw2 B12 X2 Y2 B2 e1
 go_enter Tryz.func30, Tryz.ntmps30
 go_upto_region 1 with fail
 rw [← HW1.out, ← HW2.out]
 go_wp2_with (first | (refine wpList_load_row rfl 46 _ rfl w.heap.size rfl _ (wc s) (0, 0) _ (by exact HX.out) Tryz.underlying46 rfl ah ?_) | (refine wpList_load_row rfl 46 _ rfl (w.heap.size + 1) rfl _ (wc t) (0, 0) _ (by exact HY.out) Tryz.underlying46 rfl ah ?_) | fail)
 refine HS.out.mono ?_
 rintro e w3 ⟨rfl, hb3⟩
 have HB3 := Lib.hid (HB.out.trans (hb3.mono HB.out.size))
 clear hb3
 go_wp2_with fail
 go_ret
 exact ⟨rfl, HB3.out⟩
theorem own_len0 {w : World} {B sz : Nat} {e : TypeId} {y : Sl} {xs : List Value} (h : w.ownsRow B e sz y.v 0 xs) : y.len = 0 := by
 rcases h.2 with ⟨e1, _⟩ | ⟨g, cap, cur, e1, _⟩ <;> (simp only [Sl.v, Value.slice.injEq] at e1; exact e1.2.1)
theorem work_none1 (h : Option Addr) (k : Int) (w : World) (hf : ∀ w1, Below w.heap.size w w1 → Calls Tryz.prog 60 #[.pointer h, .int .i64 k] w1 fun e w' => e = .returned (.pointer none) ∧ w' = w1) : Calls Tryz.prog 31 #[.pointer h, .int .i64 k] w fun e w' => e = .returned (wv wz) ∧ Below w.heap.size w w' := by
 have X0 := Bk.new w (wc wz) 46
 have b0 : Below w.heap.size w (w.alloc (.cells (wc wz) 46)) := (Below.refl _ _).alloc (Nat.le_refl _) _
 obtain ⟨w1, hw1⟩ : ∃ q, q = w.alloc (.cells (wc wz) 46) := ⟨_, rfl⟩
 rw [← hw1] at X0 b0
 have HF := Lib.hid (hf w1 b0)
 obtain ⟨w2, hw2⟩ : ∃ q, q = w1.setRow w.heap.size (wc wz) := ⟨_, rfl⟩
 have X2 : Bk w2 w.heap.size (wc wz) 46 := by rw [hw2]; exact X0.setRow _
 have b2 : Below w.heap.size w w2 := qa7t
 have HX0 := Lib.hid X0
 have HX2 := Lib.hid X2
 have HB2 := Lib.hid b2
 have HW1 := Lib.hid hw1
 have HW2 := Lib.hid hw2
 clear hf X0 b0 hw1 hw2 X2 b2
 have bz := fun w => build_wz w
 go_enter Tryz.func31, Tryz.ntmps31
 go_wp2_with (first | (refine au rfl rfl ?_; rw [← HW1.out]) | fail)
 refine HF.out.mono ?_
 exact qa1i
section
variable {S : Nat → Prop} {w : World} {g : HG} {c : Cfg} {R : HR}
def hd1 (c : Cfg) : HD := { hdN c [] 0 with tk := 1 }
theorem hd1_at (c : Cfg) (i : Nat) (h : i < (hd1 c).ws.length) : (hd1 c).ws[i] = ⟨[], 0, zS, []⟩ := by
 have := hdN_at c [] 0 i h
 rw [if_neg aj] at this
 exact this
theorem hd1_len (c : Cfg) : (hd1 c).ws.length = c.ww.toNat := hdN_len c [] 0
theorem pick_hd0 (c : Cfg) (k : Int) : pickF c (hdN c [] 0) k = hd1 c := by
 unfold pickF
 show (if k < 0 then hd1 c else _) = _
 split
 ·rfl
 ·show (match (hd1 c).ws[k.toNat]? with | none => _ | some d => _) = _
  cases q : (hd1 c).ws[k.toNat]? with
  | none => rfl
  | some d =>
   obtain ⟨hi, e⟩ := List.getElem?_eq_some_iff.1 q
   rw [hd1_at] at e
   subst e
   rfl
theorem firstL_le (c : Cfg) : (dW c).length ≤ 1000 := by
 unfold dW
 split
 ·rename_i h
  have ok := fK.1 h
  have hl := firstL_len ok
  unfold dW at hl
  rw [if_pos h] at hl
  have hs : siz c = 3 + c.ww + c.sl + 2 * c.en + c.sl * c.bl * (1 + c.wd) := by unfold siz; rw [if_pos (okB_true h)]
  have t := tot_ok (okB_true h)
  have := gT (a := c.sl * c.bl) (b := 1 + c.wd) (A := 128) (B := 5) t.2.1 t.2.2 (by have := ok.wd; omega) (by have := ok.wd; omega)
  have := ok.ww
  have := ok.sl
  have := ok.en
  omega
 ·exact Nat.zero_le _
theorem firstL_wr (c : Cfg) (_ : c.Wf) : WR (dW c) := fun x hx => by
 unfold dW at hx
 split at hx
 ·rename_i h
  have ok := fK.1 h
  have he := ok.en
  rw [first_eq ok, F_eq] at hx
  simp only [prew, List.mem_append, List.mem_cons, List.not_mem_nil, List.mem_replicate, List.mem_flatMap, List.mem_range, pairAt] at hx
  rcases hx with ((hx | hx) | ⟨a, ha, hx⟩) | hx
  ·rcases hx with hx | hx | hx | hx
   ·omega
   ·omega
   ·omega
   ·exact hx.elim
  ·omega
  ·rcases hx with hx | hx | hx
   ·omega
   ·split at hx <;> omega
   ·exact hx.elim
  ·omega
 ·cases hx
theorem wf_hd0 (c : Cfg) (hk : chk c = 0) (hf : c.Wf) : WfH c (hdN c [] 0) ∧ (hdN c [] 0).tk < 100000 := by
 have ok := fK.1 hk
 have hl : (hdN c [] 0).ws.length ≤ 8 := by rw [hdN_len]; have := ok.ww; omega
 have at_ : ∀ i (q : i < (hdN c [] 0).ws.length), (hdN c [] 0).ws[i] = ⟨[], 0, zS, []⟩ := fun i q => by rw [hdN_at, if_neg aj]
 refine ⟨⟨firstL_le c, firstL_wr c hf, hl, Nat.zero_le _, Nat.zero_le _, fun i q => ?_, fun i q => ?_, fun i q h => ?_, fun i q h => ?_, fun i q => ?_, fun i q bg hb => ?_, fun i q => ?_, fun i q => ?_⟩, by show 0 < 100000; omega⟩
 ·rw [at_ i q]; exact few_z.mono aj
 ·rw [at_ i q]; exact ⟨by decide, by decide, by decide, by decide, by decide, by decide, by decide⟩
 ·rw [at_ i q] at h; exact absurd rfl h
 ·rw [at_ i q] at h; exact absurd rfl h
 ·rw [at_ i q]; exact Nat.zero_le _
 ·rw [at_ i q] at hb; exact absurd hb (Nat.not_lt_zero _)
 ·rw [at_ i q]; exact Nat.zero_le _
 ·rw [at_ i q]; exact Nat.zero_le _
theorem work_out (h : HA S w g c R (hd1 c)) (n8 : (hd1 c).ws.length ≤ 8) {k : Int} (hv : ¬ (0 ≤ k ∧ k < ((hd1 c).ws.length : Int))) : Calls Tryz.prog 31 #[.pointer (some ⟨g.h, 0, none⟩), .int .i64 k] w fun e w' => e = .returned (wv wz) ∧ Below w.heap.size w w' :=
 work_none1 _ k w (fun w' hb => find_out (h.keep hb) k n8 hv)
theorem left_0 (h : HA S w g c R (hd1 c)) (n8 : (hd1 c).ws.length ≤ 8) (k : Int) : Calls Tryz.prog 27 #[.pointer (some ⟨g.h, 0, none⟩), .int .i64 k] w fun e w' => e = .returned (.int .i64 0) ∧ Below w.heap.size w w' := by
 by_cases hv : 0 ≤ k ∧ k < ((hd1 c).ws.length : Int)
 ·obtain ⟨i, rfl⟩ : ∃ i : Nat, k = i := ⟨k.toNat, by omega⟩
  have hi : i < (hd1 c).ws.length := aj
  have q := hLeft h n8 i hi qa7v qa7v
  rw [hd1_at] at q
  exact q
 ·refine (left_none _ k w (find_out h k n8 hv)).mono ?_
  rintro e w2 ⟨rfl, rfl⟩
  exact ⟨rfl, Below.refl _ _⟩
theorem told_0 (h : HA S w g c R (hd1 c)) (n8 : (hd1 c).ws.length ≤ 8) (k : Int) : Calls Tryz.prog 29 #[.pointer (some ⟨g.h, 0, none⟩), .int .i64 k] w fun e w' => ∃ y : Sl, e = .returned y.v ∧ y.len = 0 ∧ Below w.heap.size w w' := by
 by_cases hv : 0 ≤ k ∧ k < ((hd1 c).ws.length : Int)
 ·obtain ⟨i, rfl⟩ : ∃ i : Nat, k = i := ⟨k.toNat, by omega⟩
  have hi : i < (hd1 c).ws.length := aj
  refine (hTold h n8 i hi qa7v).mono ?_
  rintro e w2 ⟨y, rfl, O, hb⟩
  rw [hd1_at] at O
  exact ⟨y, rfl, own_len0 O, hb⟩
 ·refine (told_none _ k w (find_out h k n8 hv)).mono ?_
  rintro e w2 ⟨rfl, rfl⟩
  exact ⟨aG, rfl, rfl, Below.refl _ _⟩
theorem work_0 (h : HA S w g c R (hd1 c)) (n8 : (hd1 c).ws.length ≤ 8) (k : Int) : Calls Tryz.prog 31 #[.pointer (some ⟨g.h, 0, none⟩), .int .i64 k] w fun e w' => ∃ s', e = .returned (wv s') ∧ aP w' s' zS ∧ Below w.heap.size w w' := by
 by_cases hv : 0 ≤ k ∧ k < ((hd1 c).ws.length : Int)
 ·obtain ⟨i, rfl⟩ : ∃ i : Nat, k = i := ⟨k.toNat, by omega⟩
  have hi : i < (hd1 c).ws.length := aj
  refine (hWork h n8 i hi (by rw [hd1_at]; exact few_z.mono aj)).mono ?_
  rintro e w2 ⟨s, rfl, A, hb⟩
  rw [hd1_at] at A
  exact ⟨s, rfl, A.lies, hb⟩
 ·obtain ⟨w1, hw1⟩ : ∃ q, q = w.alloc (.cells (wc wz) 46) := ⟨_, rfl⟩
  refine (work_out h n8 hv).mono ?_
  rintro e w2 ⟨rfl, hb⟩
  exact ⟨wz, rfl, (lies_wz (P := fun _ => True)).lies, hb⟩
end
theorem hallNone (c : Cfg) (W : c.Wf) (k : Int) (w : World) : Calls Tryz.prog 4 #[cv c, .int .i64 k] w fun e w' => e = .returned (.bool true) ∧ Below w.heap.size w w' := by
 obtain ⟨gx, hgx⟩ : ∃ q, q = w.heap.size := ⟨_, rfl⟩
 obtain ⟨w1, hw1⟩ : ∃ q, q = w.alloc (.cells (dZ c) 24) := ⟨_, rfl⟩
 have X1 : Bk w1 gx (dZ c) 24 := by rw [hw1, hgx]; exact Bk.new _ _ _
 have B1 : Below w.heap.size w w1 := qa7r
 have HX := Lib.hid X1
 have HB := Lib.hid B1
 have HGX := Lib.hid hgx
 have HW1 := Lib.hid hw1
 clear X1 B1 hgx hw1
 go_enter Tryz.func4, Tryz.ntmps4
 go_upto_region 1 with fail
 rw [show w.alloc (.cells #[.int .i64 c.ww, .int .i64 c.sl, .int .i64 c.bl, .int .i64 c.wd, .int .i64 c.en, .int .i64 c.rk, .int .i64 c.bg, .int .u64 c.la] 24) = w1 from HW1.out.symm, ← HGX.out]
 go_wp2_with fail
 refine (awake15 w1).mono ?_
 rintro e w2 ⟨rfl, hb2⟩
 have X2 := HX.out.keep hb2
 have HX2 := Lib.hid X2
 have HB2 := Lib.hid (HB.out.trans (hb2.mono HB.out.size))
 clear hb2 X2
 have bz := fun w => build_wz w
 go_wp2_with fail
 refine (hPick_nil k w2).mono ?_
 rintro e w3 ⟨rfl, rfl⟩
 obtain ⟨gp, hgp⟩ : ∃ q, q = w3.heap.size := ⟨_, rfl⟩
 obtain ⟨w4, hw4⟩ : ∃ q, q = w3.alloc (.cells #[.int .i64 k, .int .i64 k] 3) := ⟨_, rfl⟩
 have R4 : Reads w4 .i64 (.slice (some ⟨gp, 0, none⟩) 2 2) [k, k] := by
  rw [hw4, hgp]
  exact Reads.dn (l := [k, k]) (Bk.new w3 #[.int .i64 k, .int .i64 k] 3) fZ
 have b4 : Below w3.heap.size w3 w4 := qa7s
 have HX4 := Lib.hid (HX2.out.keep b4)
 have HB4 := Lib.hid (HB2.out.trans (b4.mono HB2.out.size))
 have HR4 := Lib.hid R4
 have HW4 := Lib.hid hw4
 have HGP := Lib.hid hgp
 clear hgp hw4 R4 b4
 go_wp2_with fail
 rw [← HW4.out, ← HGP.out]
 refine (run_nil _ _ w4 HR4.out).mono ?_
 rintro e w5 ⟨rfl, rfl⟩
 go_wp2_with fail
 refine (events_nil w5).mono ?_
 rintro e w6 ⟨rfl, rfl⟩
 go_wp2_with fail
 refine (tick_nil w6).mono ?_
 rintro e w7 ⟨rfl, rfl⟩
 go_wp2_with fail
 refine (left_none none k w7 (find_nil k w7)).mono ?_
 rintro e w8 ⟨rfl, rfl⟩
 go_wp2_with fail
 refine (words_nil w8).mono ?_
 rintro e w9 ⟨rfl, rfl⟩
 go_wp2_with fail
 refine (told_none none k w9 (find_nil k w9)).mono ?_
 rintro e wa ⟨rfl, rfl⟩
 go_wp2_with fail
 refine (work_none none k wa (fun w => find_nil k w)).mono ?_
 rintro e wb ⟨rfl, hbb⟩
 have HXb := Lib.hid (HX4.out.keep hbb)
 have HBb := Lib.hid (HB4.out.trans (hbb.mono HB4.out.size))
 clear hbb
 go_wp2_with fail
 refine (fAlike (lies_wz (P := fun _ => True)).lies (lies_wz (P := fun _ => True)).lies).mono ?_
 rintro e wc1 ⟨rfl, hbc⟩
 have HXc := Lib.hid (HXb.out.keep hbc)
 have HBc := Lib.hid (HBb.out.trans (hbc.mono HBb.out.size))
 clear hbc
 have RP : iL wc1 (.slice none ([] : List (List OpD)).length 0) [] := ⟨none, 0, rfl, Nat.le_refl _, by unfold maxLen; omega, .inl rfl⟩
 by_cases hk : chk c = 0
 ·have hck : ckF c [] = 0 := by
   have := (fK.1 hk).ww
   rw [ck_eq, if_neg (fun z => z hk), if_neg (by show ¬ c.ww < 0; omega)]
   rfl
  have HNW := Lib.hid (hNew_ok c W none [] 0 wc1 RP hck)
  have HWF := Lib.hid (wf_hd0 c hk W)
  have HOK := Lib.hid (fK.1 hk)
  clear RP hck hk
  go_wp2_with (first | (refine wpList_load_row rfl 24 _ rfl gx rfl _ (dZ c) (0, 0) _ (by exact HXc.out) Tryz.underlying24 rfl ah ?_) | fail)
  refine HNW.out.mono ?_
  rintro e wd ⟨g, R, rfl, N⟩
  have HPK := Lib.hid (hPick N.ha W ⟨by have := HOK.out.bl; omega, by have := HOK.out.bl; omega⟩ HWF.out.1 HWF.out.2 k)
  have HXd := Lib.hid (HXc.out.keep N.below)
  have HBd := Lib.hid (HBc.out.trans (N.below.mono HBc.out.size))
  have HN := Lib.hid N
  clear N
  go_wp2_with fail
  refine HPK.out.mono ?_
  rintro e we ⟨rfl, R1, P1⟩
  have P1' : HP (fun b => wc1.heap.size ≤ b ∧ b < wd.heap.size) g c R wd R1 (hd1 c) we := by
   have := P1
   rw [show ([] : List (List OpD)).length = 0 from rfl, pick_hd0] at this
   exact this
  have HA1 := Lib.hid P1'.ha
  have HXe : RowKit.Hid (Bk we gx (dZ c) 24) := Lib.hid (P1'.fr.bk HXd.out (fun m => by
   have := (HN.out.ha.sub gx m).1
   have := HXc.out.lt
   omega))
  have HBe : RowKit.Hid (Below w.heap.size w we) := Lib.hid (HBd.out.trans (P1'.fr.belowB (fun b m => by have := (HN.out.ha.sub b m).1; have := HBc.out.size; omega) HBd.out.size))
  have n8 : (hd1 c).ws.length ≤ 8 := by rw [hd1_len]; have := HOK.out.ww; omega
  have HTK := Lib.hid (fun (z : World) (hb : Below we.heap.size we z) => (hTickV (HA1.out.keep hb)).mono (R' := fun e w' => e = .returned (.int .i64 1) ∧ Below z.heap.size z w') (by rintro e w' ⟨rfl, rfl⟩; exact ⟨rfl, Below.refl _ _⟩))
  have HEV := Lib.hid (fun (z : World) (hb : Below we.heap.size we z) => (hEvents (HA1.out.keep hb) (Nat.zero_le _) (fun i q => absurd q (Nat.not_lt_zero i))).mono (R' := fun e w' => ∃ y : Sl, e = .returned y.v ∧ y.len = 0 ∧ Below z.heap.size z w') (by
   rintro e w' ⟨y, es, rfl, E, hb⟩
   have h0 : es.length = 0 := E.len
   have o := E.own
   rw [h0] at o
   exact ⟨y, rfl, own_len0 o, hb⟩))
  have HLF := Lib.hid (fun (z : World) (hb : Below we.heap.size we z) => left_0 (HA1.out.keep hb) n8 k)
  have HTD := Lib.hid (fun (z : World) (hb : Below we.heap.size we z) => told_0 (HA1.out.keep hb) n8 k)
  have HWK := Lib.hid (fun (z : World) (hb : Below we.heap.size we z) => work_0 (HA1.out.keep hb) n8 k)
  have HWD := Lib.hid (fun (z : World) (hb : Below we.heap.size we z) => hWords (HA1.out.keep hb) (firstL_le c))
  have HFR := Lib.hid (fun (z : World) => refFirst c W z)
  clear P1 P1' n8
  go_upto_region 12 with fail
  have hz : Below we.heap.size we we.drew := Below.drew (Below.refl _ _)
  have HX0 := Lib.hid (HXe.out.keep hz)
  have HB0 := Lib.hid hz
  refine wp_region_held_drew (S := fun w' => Bk w' gx (dZ c) 24) ah HX0.out (fun hHeld => ?_)
  generalize we.drew = z0 at *
  clear hz
  refine jT 0 (.pointer (some ⟨g.h, 0, none⟩)) rfl hHeld ?_
  try simp only [Act.put, jP]
  refine jR [1] ?_
  refine jC rfl (fun K hK => ?_) jN
  go_simp
  refine (HTK.out _ HB0.out).mono ?_
  rintro e z1 ⟨rfl, hb1⟩
  have HB1 := Lib.hid (HB0.out.trans (hb1.mono HB0.out.size))
  have HX1 := Lib.hid (HX0.out.keep hb1)
  refine hK.out _ _ HX1.out (fun hHeld => ?_)
  clear hK K hb1
  try simp only [Act.put, jP]
  refine jT 2 (.bool true) rfl hHeld ?_
  try simp only [Act.put, jP]
  refine jT 3 (.bool true) rfl hHeld ?_
  try simp only [Act.put, jP]
  refine jT 4 (.pointer (some ⟨g.h, 0, none⟩)) rfl hHeld ?_
  try simp only [Act.put, jP]
  refine jR [5] ?_
  refine jC rfl (fun K hK => ?_) jN
  go_simp
  refine (HEV.out _ HB1.out).mono ?_
  rintro e z2 ⟨⟨ya, yl, yc⟩, rfl, hyl, hb2⟩
  have HB2 := Lib.hid (HB1.out.trans (hb2.mono HB1.out.size))
  have HX2 := Lib.hid (HX1.out.keep hb2)
  obtain rfl : yl = 0 := hyl
  refine hK.out _ _ HX2.out (fun hHeld => ?_)
  clear hK K hb2
  try simp only [Act.put, jP]
  refine jT 6 (.int .i64 0) rfl hHeld ?_
  try simp only [Act.put, jP]
  refine jT 7 (.bool true) rfl hHeld ?_
  try simp only [Act.put, jP]
  refine jT 8 (.bool true) rfl hHeld ?_
  try simp only [Act.put, jP]
  refine jT 9 (.bool true) rfl hHeld ?_
  try simp only [Act.put, jP]
  refine jT 10 (.pointer (some ⟨g.h, 0, none⟩)) rfl hHeld ?_
  try simp only [Act.put, jP]
  refine jT 11 (.int .i64 k) rfl hHeld ?_
  try simp only [Act.put, jP]
  refine jR [12] ?_
  refine jC rfl (fun K hK => ?_) jN
  go_simp
  refine (HLF.out _ HB2.out).mono ?_
  rintro e z3 ⟨rfl, hb3⟩
  have HB3 := Lib.hid (HB2.out.trans (hb3.mono HB2.out.size))
  have HX3 := Lib.hid (HX2.out.keep hb3)
  refine hK.out _ _ HX3.out (fun hHeld => ?_)
  clear hK K hb3
  try simp only [Act.put, jP]
  refine jT 13 (.bool true) rfl hHeld ?_
  try simp only [Act.put, jP]
  refine jT 14 (.bool true) rfl hHeld ?_
  try simp only [Act.put, jP]
  refine jT 15 (.bool true) rfl hHeld ?_
  try simp only [Act.put, jP]
  refine jT 16 (.pointer (some ⟨g.h, 0, none⟩)) rfl hHeld ?_
  try simp only [Act.put, jP]
  refine jT 17 (.int .i64 k) rfl hHeld ?_
  try simp only [Act.put, jP]
  refine jR [18] ?_
  refine jC rfl (fun K hK => ?_) jN
  go_simp
  refine (HTD.out _ HB3.out).mono ?_
  rintro e z4 ⟨⟨ta, tl, tc⟩, rfl, htl, hb4⟩
  have HB4 := Lib.hid (HB3.out.trans (hb4.mono HB3.out.size))
  have HX4 := Lib.hid (HX3.out.keep hb4)
  obtain rfl : tl = 0 := htl
  refine hK.out _ _ HX4.out (fun hHeld => ?_)
  clear hK K hb4
  try simp only [Act.put, jP]
  refine jT 19 (.int .i64 0) rfl hHeld ?_
  try simp only [Act.put, jP]
  refine jT 20 (.bool true) rfl hHeld ?_
  try simp only [Act.put, jP]
  refine jT 21 (.bool true) rfl hHeld ?_
  try simp only [Act.put, jP]
  refine jT 22 (.bool true) rfl hHeld ?_
  try simp only [Act.put, jP]
  refine jT 23 (.pointer (some ⟨g.h, 0, none⟩)) rfl hHeld ?_
  try simp only [Act.put, jP]
  refine jT 24 (.int .i64 k) rfl hHeld ?_
  try simp only [Act.put, jP]
  refine jY 26 (wv wz) rfl (Or.inl ⟨by rfl, fun w' hSw => by have bz := build_wz w'; go_simp; rfl⟩) hHeld ?_
  try simp only [Act.put, jP]
  refine jR [25] ?_
  refine jC rfl (fun K hK => ?_) jN
  go_simp
  refine (HWK.out _ HB4.out).mono ?_
  rintro e z5 ⟨s, rfl, As, hb5⟩
  have HB5 := Lib.hid (HB4.out.trans (hb5.mono HB4.out.size))
  have HX5 := Lib.hid (HX4.out.keep hb5)
  have HAS := Lib.hid As
  clear As
  refine hK.out _ _ HX5.out (fun hHeld => ?_)
  clear hK K hb5
  try simp only [Act.put, jP]
  refine jR [27] ?_
  refine jC rfl (fun K hK => ?_) jN
  go_simp
  refine (fAlike HAS.out (lies_wz (P := fun _ => True)).lies).mono ?_
  rintro e z6 ⟨rfl, hb6⟩
  have HB6 := Lib.hid (HB5.out.trans (hb6.mono HB5.out.size))
  have HX6 := Lib.hid (HX5.out.keep hb6)
  refine hK.out _ _ HX6.out (fun hHeld => ?_)
  clear hK K hb6
  try simp only [Act.put, jP]
  refine jT 28 (.bool true) rfl hHeld ?_
  try simp only [Act.put, jP]
  refine jT 29 (.bool true) rfl hHeld ?_
  try simp only [Act.put, jP]
  refine jT 30 (.pointer (some ⟨g.h, 0, none⟩)) rfl hHeld ?_
  try simp only [Act.put, jP]
  refine jY 32 (.agg (dZ c)) rfl (yieldsIf_rowW jy 24 _ rfl gx rfl (dZ c) 24 _ (fun w' hw' => hw') Tryz.underlying24 rfl ah) hHeld ?_
  try simp only [Act.put, jP]
  refine jR [31] ?_
  refine jC rfl (fun K hK => ?_) jN
  go_simp
  refine (HWD.out _ HB6.out).mono ?_
  rintro e z7 ⟨y, rfl, Oy, hb7⟩
  have HB7 := Lib.hid (HB6.out.trans (hb7.mono HB6.out.size))
  have HX7 := Lib.hid (HX6.out.keep hb7)
  have HOY : RowKit.Hid (Reads z7 .u64 y.v (dW c)) := Lib.hid (Reads.of_own Oy rfl)
  obtain ⟨wa, wl, wc0⟩ := y
  simp only [Sl.v] at *
  clear Oy
  refine hK.out _ _ HX7.out (fun hHeld => ?_)
  clear hK K hb7
  try simp only [Act.put, jP]
  refine jR [33] ?_
  refine jC rfl (fun K hK => ?_) jN
  go_simp
  refine (HFR.out _).mono ?_
  rintro e z8 ⟨v, rfl, Rv, hb8⟩
  have HB8 := Lib.hid (HB7.out.trans (hb8.mono HB7.out.size))
  have HX8 := Lib.hid (HX7.out.keep hb8)
  have HRV := Lib.hid Rv
  have HOY2 := Lib.hid (HOY.out.keep hb8)
  clear Rv
  refine hK.out _ _ HX8.out (fun hHeld => ?_)
  clear hK K hb8
  try simp only [Act.put, jP]
  refine jR [34] ?_
  refine jC rfl (fun K hK => ?_) jN
  go_simp
  refine (same HOY2.out HRV.out).mono ?_
  rintro e z9 ⟨rfl, hb9⟩
  have HB9 := Lib.hid (HB8.out.trans (hb9.mono HB8.out.size))
  have HX9 := Lib.hid (HX8.out.keep hb9)
  refine hK.out _ _ HX9.out (fun hHeld => ?_)
  clear hK K hb9
  try simp only [Act.put, jP]
  refine jT 35 (.bool true) rfl hHeld ?_
  try simp only [Act.put, jP]
  refine jT 36 (.bool true) rfl hHeld ?_
  try simp only [Act.put, jP]
  refine wpAnyH_done ah ?_ _
  go_wp2
  go_ret
  exact ⟨rfl, HBe.out.trans (HB9.out.mono HBe.out.size)⟩
 ·have hck : ckF c [] ≠ 0 := by rw [ck_eq, if_pos hk]; exact hk
  have eck : ckF c [] = chk c := by rw [ck_eq, if_pos hk]
  have HNW0 := hNew_no c W none [] 0 wc1 RP hck
  rw [eck] at HNW0
  have HNW := Lib.hid HNW0
  have HRC := Lib.hid (fun w => refCheck c W w)
  obtain ⟨ck, hckk⟩ : ∃ q, q = chk c := ⟨_, rfl⟩
  rw [← hckk] at HNW HRC hk
  have hq : (ck != 0) = true := by simp [hk]
  clear RP hck eck HNW0 hckk hk
  go_wp2_with (first | (refine wpList_load_row rfl 24 _ rfl gx rfl _ (dZ c) (0, 0) _ (by exact HXc.out) Tryz.underlying24 rfl ah ?_) | fail)
  refine HNW.out.mono ?_
  rintro e wd ⟨rfl, hbd⟩
  have HXd := Lib.hid (HXc.out.keep hbd)
  have HBd := Lib.hid (HBc.out.trans (hbd.mono HBc.out.size))
  clear hbd
  go_wp2_with (first | (refine wpList_load_row rfl 24 _ rfl gx rfl _ (dZ c) (0, 0) _ (by exact HXd.out) Tryz.underlying24 rfl ah ?_) | fail)
  refine (HRC.out wd).mono ?_
  rintro e we ⟨rfl, hbe⟩
  have HBe := Lib.hid (HBd.out.trans (hbe.mono HBd.out.size))
  clear hbe
  go_wp2_with fail
  go_ret
  exact ⟨rfl, HBe.out⟩
end Go.Proofs.YtaiodbcnbcdokaaGreat.Ha
