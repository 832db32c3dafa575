/- Part WorkRd. -/
import Derived.Test.YtaiodbcnbcdokaaGreatKWorkStp
import Derived.Test.YtaiodbcnbcdokaaGreatKEpochLines
set_option linter.unusedVariables false
set_option linter.unusedSimpArgs false
set_option linter.unusedSectionVars false
set_option maxRecDepth 100000
set_option maxHeartbeats 16000000
namespace Go.Proofs.YtaiodbcnbcdokaaGreat.Me
open Go Go.RowKit Go.ChangeMaps Gro Own Wd Ap Go.Proofs.YtaiodbcnbcdokaaGreat.Pl Wo Mr
def readW (c : Cfg) (L : List Int) (x : St) (bk : Int) : Int := ldV L (aWrd c (wrap64 (bk - 1)) x.p.j)
def jE (c : Cfg) (a : Acc) (L : List Int) (x : St) (bk : Int) : Rs := ⟨acc L 1 (aWrd c (wrap64 (bk - 1)) x.p.j) 0 0, L, jJ { x with rd := x.rd ++ [readW c L x bk] }, fD c x, true⟩
theorem few_read {c : Cfg} {a : Acc} {L : List Int} {x : St} {bk : Int} (h : Few 200 x) : Few 400 (jE c a L x bk).x :=
 ⟨by have := h.rk; show x.rk.length ≤ 400; omega, by have := h.l0; show x.l0.length ≤ 400; omega, by have := h.l1; show x.l1.length ≤ 400; omega, by have := h.l2; show x.l2.length ≤ 400; omega, by have := h.hl; show x.hl.length ≤ 400; omega, by have := h.rd; show (x.rd ++ _).length ≤ 400; rw [List.length_append, List.length_singleton]; omega⟩
theorem epLt {c : Cfg} {a : Acc} {L : List Int} (hL : WR L) {x : St} {wk : Int} : (bX c a L (atS x 1).p wk).fin.p.ep < 18446744073709551616 := (dP hL 0).2
section
variable {P : Program} {ops : Array Oper} {o : Oper} {a : Act} {w : World} {Q : Exit → Act → World → Prop} {K : Act → World → Prop} {F : Prop}
theorem gV {t e : TypeId} {bytes : Nat} {k : IntKind} (E : Elem P t e 1 bytes) (hgd : o.guard = none) (s x : Operand) (ho : o.op = .call { callee := .builtin .append, args := #[s, x], argTypes := #[t, t] })
  (base : Nat) (d : Sl) (L : List Int) (hs : a.eval s = d.v) (hdr : Reads w k d.v L) (ht : d.cap = d.len) (xv : Value) (M : List Int) (hx : a.eval x = xv) (hr : Reads w k xv M)
  (hM : M ≠ []) (hn : L.length + M.length ≤ 1000000) (hbase : base ≤ w.heap.size)
  (h : ∀ (y : Sl) w', w'.ownsRow base e 1 y.v (L ++ M).length ((L ++ M).map (.int k)) → Below w.heap.size w w' → K (a.put o.dst y.v) w') : if Region.wanted o (yielded ops a.tmps) = true then Oper.wp P o a w K Q else F := by
 rw [if_pos qa56]
 obtain ⟨i, z, hi, hz, hsz, hby, hzs⟩ := E.info
 have hlen := bI hdr
 have hsrc := reads_src E.under hr
 have hpos : 0 < M.length := List.length_pos_iff.2 hM
 have hmx : d.len + M.length ≤ maxLen := qa4f
 have hrun := run_append_grow_src (P := P) w t t o.type e i z E.under hi hz d.ad d.len d.cap (L.map (.int k)) qa4l xv M.length (M.map (.int k)) qa4j aj (by unfold maxLen at hmx; omega) (growslice_fits aj (by
  have := E.small
  rw [hby, hlen]
  calc (L.length + M.length) * bytes ≤ 1000000 * 1024 := Nat.mul_le_mul hn this
   _ ≤ 140737488355328 := by decide))
 unfold Oper.wp
 simp [execOp, ho, resolve, invoke, builtin, hs, hx, hrun, Result.andThen]
 have hge := grownCap_ge w (d.len + M.length) d.cap e
 have hcm := grownCap_le_maxLen w (d.len + M.length) d.cap e hmx
 refine h ⟨some ⟨w.heap.size, 0, none⟩, d.len + M.length, grownCap w (d.len + M.length) d.cap e⟩ _ ?_ ?_
 ·exact qa2
 ·exact ((Below.refl w.heap.size w).drew).alloc (Nat.le_refl _) _
end
theorem bk_rd {w : World} {g : Nat} {s : Wk} (h : Bk w g (wc s) 46) : ∃ y, Bk w g (wc ({ s with rd := y } : Wk)) 46 := ⟨s.rd, h⟩
theorem touchC {g gl gz : Nat} {w w3 : World} (t : Touch g gl w w3) (hz : w.heap.size ≤ gz) {j : Nat} (v : Value) : Touch g gl w (w3.setCell ⟨gz, j, none⟩ v) := ⟨t.os, t.tape, t.output, by simpa using t.size, fun b h h1 h2 => (heap_setCell_other w3 ⟨gz, j, none⟩ b v (show b ≠ gz by omega)).trans (t.block b h h1 h2)⟩
theorem fReadE {P : Nat → Prop} {B : Nat} {w : World} {g gl cap : Nat} {c : Cfg} {a : Acc} {L : List Int} (M : aC B w g c a gl cap L) (hf : c.Wf) (hm : L.length ≤ 1000) (s : Wk) (x : St) (hx : Few 1000 x) (hP : ∀ b, w.heap.size ≤ b → P b) (hG : ∀ b, P b → b ≠ g ∧ b ≠ gl) (A : aM P w s x) (hcp : s.rd.cap = s.rd.len) (wk : Int) :
  Calls Tryz.prog 156 #[.pointer (some ⟨g, 0, none⟩), .int .i64 wk, wv s] w (GSP P B g gl cap c (jE c a L x x.p.c) w) := by
 have mlt := M.lt
 have f28 : ∀ s : Wk, (wc s)[28]? = some (.int .i64 s.p.j) := fun _ => rfl
 have f21 : ∀ s : Wk, (wc s)[21]? = some (.int .i64 s.p.c) := fun _ => rfl
 have T0 := Two.start w s
 have AQ := (A.mono (Q := fun b => P b ∧ b ≠ w.heap.size ∧ b ≠ w.heap.size + 1) (fun b hb q => ⟨q, by omega, by omega⟩)).keep T0.below
 obtain ⟨v0, hv0⟩ : ∃ u, u = (w.alloc (.cells (wc s) 46)).alloc (.cells (wc wz) 46) := ⟨_, rfl⟩
 rw [← hv0] at T0 AQ
 have x0 := T0.X.cells
 have z0 := T0.X.frozen
 have M0 := M.keep T0.below
 have lt0 := T0.lt
 have ll0 := T0.below.size
 have ep := A.p
 have HCP := Lib.hid hcp
 have HFR := Lib.hid hx.rd
 obtain ⟨b1, hb1⟩ : ∃ k, k = wrap64 (x.p.c - 1) := ⟨_, rfl⟩
 have hb1' : IntKind.i64.wrap (x.p.c - 1) = b1 := (IntWalk.i64_left _).trans hb1.symm
 obtain ⟨ka, hka⟩ : ∃ k, k = aWrd c b1 x.p.j := ⟨_, rfl⟩
 obtain ⟨vv, hvv⟩ : ∃ v, v = ldV L ka := ⟨_, rfl⟩
 have q28 : (wc s)[28]? = some (.int .i64 x.p.j) := by rw [f28, ep]
 have q21 : (wc s)[21]? = some (.int .i64 x.p.c) := by rw [f21, ep]
 have q28' : ∀ y, (wc ({ s with rd := y } : Wk))[28]? = some (.int .i64 x.p.j) := fun y => by rw [f28, ← ep]
 have q21' : ∀ y, (wc ({ s with rd := y } : Wk))[21]? = some (.int .i64 x.p.c) := fun y => by rw [f21, ← ep]
 have q29 : (wc s)[29]? = some (.slice s.rd.ad s.rd.len s.rd.cap) := rfl
 have HWD := Lib.hid (fun w => hka ▸ word c hf b1 x.p.j w)
 have hR : jE c a L x x.p.c = ⟨acc L 1 ka 0 0, L, jJ { x with rd := x.rd ++ [vv] }, fD c x, true⟩ := by unfold jE readW; rw [← hb1, ← hka, ← hvv]
 rw [hR]
 obtain ⟨jj, hjj⟩ : ∃ j, j = x.p.j := ⟨_, rfl⟩
 obtain ⟨bb, hbb⟩ : ∃ j, j = x.p.c := ⟨_, rfl⟩
 rw [← hjj] at q28 HWD
 rw [← hbb] at q21 hb1'
 simp only [← hjj] at q28'
 simp only [← hbb] at q21'
 have HVV := hvv
 clear hb1 hka ep f28 f21 hR hjj hbb hcp hvv
 go_enter Tryz.func156, Tryz.ntmps156
 go_wp2_with (first | ((with_reducible refine au rfl rfl ?_); rw [← hv0]; clear hv0))
 have hz0 : Below v0.heap.size v0 v0.drew := Below.drew (Below.refl _ _)
 refine wp_region_held_drew (S := fun w' => (∃ y, Bk w' w.heap.size (wc ({ s with rd := y } : Wk)) 46) ∧ ∃ a' y', Bk w' g (mc c a' y') 99) ah ⟨bk_rd (T0.X.keep hz0), _, _, (M0.keep hz0).B⟩ (fun hHeld => ?_)
 have XA := T0.X.keep hz0
 have ZA := T0.Z.keep hz0
 have MA := M0.keep hz0
 have AA := AQ.keep hz0
 have TTA : Touch g gl w v0.drew := Touch.of_below (T0.below.trans (hz0.mono ll0))
 generalize v0.drew = z0' at *
 refine jT 0 (.pointer (some ⟨w.heap.size, 29, none⟩)) rfl hHeld ?_
 try simp only [Act.put, jP]
 refine jT 2 (.pointer (some ⟨g, 0, none⟩)) rfl hHeld ?_
 try simp only [Act.put, jP]
 refine jT 3 (.pointer (some ⟨g, 0, none⟩)) rfl hHeld ?_
 try simp only [Act.put, jP]
 refine jT 4 (.pointer (some ⟨g, 0, none⟩)) rfl hHeld ?_
 try simp only [Act.put, jP]
 refine jT 5 (.pointer (some ⟨g, 0, none⟩)) rfl hHeld ?_
 try simp only [Act.put, jP]
 refine jY 6 (cv c) rfl (Or.inl ⟨by rfl, fun w' hSw => by obtain ⟨_, _, _, hBB⟩ := hSw; have xx := hBB.cells; go_simp⟩) hHeld ?_
 try simp only [Act.put, jP]
 refine jT 7 (.pointer (some ⟨w.heap.size, 21, none⟩)) rfl hHeld ?_
 try simp only [Act.put, jP]
 refine jY 8 (.int .i64 bb) rfl (Or.inl ⟨by rfl, fun w' hSw => by obtain ⟨⟨_, hXX⟩, _⟩ := hSw; have xx := hXX.cells; go_simp⟩) hHeld ?_
 try simp only [Act.put, jP]
 refine jT 9 (.int .i64 b1) rfl hHeld ?_
 try simp only [Act.put, jP]
 refine jT 10 (.pointer (some ⟨w.heap.size, 28, none⟩)) rfl hHeld ?_
 try simp only [Act.put, jP]
 refine jY 11 (.int .i64 jj) rfl (Or.inl ⟨by rfl, fun w' hSw => by obtain ⟨⟨_, hXX⟩, _⟩ := hSw; have xx := hXX.cells; go_simp⟩) hHeld ?_
 try simp only [Act.put, jP]
 refine jR [1, 12] ?_
 refine jC rfl (fun K hK => ?_) (jC rfl (fun K hK => ?_) jN)
 ·have xx := XA.cells
  go_simp
  refine hK.out _ _ ⟨bk_rd XA, _, _, MA.B⟩ (fun hHeld => ?_)
  clear hK K xx
  try simp only [Act.put, jP]
  refine jR [12] ?_
  refine jC rfl (fun K hK => ?_) jN
  go_simp
  refine (HWD.out _).mono ?_
  rintro e z1 ⟨rfl, hb⟩
  have X1 := XA.keep hb
  have Z1 := ZA.keep hb
  have M1 := MA.keep hb
  have A1 := AA.keep hb
  have TT1 := TTA.trans (Touch.of_below hb)
  refine hK.out _ _ ⟨bk_rd X1, _, _, M1.B⟩ (fun hHeld => ?_)
  clear hK K hb
  exact qa3r
 ·go_simp
  refine (HWD.out _).mono ?_
  rintro e z1 ⟨rfl, hb⟩
  have X1 := XA.keep hb
  have Z1 := ZA.keep hb
  have M1 := MA.keep hb
  have A1 := AA.keep hb
  have TT1 := TTA.trans (Touch.of_below hb)
  refine hK.out _ _ ⟨bk_rd X1, _, _, M1.B⟩ (fun hHeld => ?_)
  clear hK K hb
  try simp only [Act.put, jP]
  refine jR [1, 13] ?_
  refine jC rfl (fun K hK => ?_) (jC rfl (fun K hK => ?_) jN)
  ·have xx := X1.cells
   go_simp
   refine hK.out _ _ ⟨bk_rd X1, _, _, M1.B⟩ (fun hHeld => ?_)
   clear hK K xx
   exact qa3r
  ·go_simp
   refine (bF M1 hm ka).mono ?_
   rintro e z2 ⟨rfl, M2, T2⟩
   have X2 := T2.bk X1 aj aj
   have Z2 := T2.bk Z1 aj aj
   have A2 : aM (fun b => P b ∧ b ≠ w.heap.size ∧ b ≠ w.heap.size + 1) z2 s x := ⟨A1.p, fF A1.rk T2 (fun b q => (hG b q.1).1) (fun b q => (hG b q.1).2), fF A1.l0 T2 (fun b q => (hG b q.1).1) (fun b q => (hG b q.1).2), fF A1.l1 T2 (fun b q => (hG b q.1).1) (fun b q => (hG b q.1).2), fF A1.l2 T2 (fun b q => (hG b q.1).1) (fun b q => (hG b q.1).2), fF A1.hl T2 (fun b q => (hG b q.1).1) (fun b q => (hG b q.1).2), fF A1.rd T2 (fun b q => (hG b q.1).1) (fun b q => (hG b q.1).2)⟩
   have TT2 := TT1.trans T2
   refine hK.out _ _ ⟨bk_rd X2, _, _, M2.B⟩ (fun hHeld => ?_)
   clear hK K
   try simp only [Act.put, jP]
   refine jR [1, 14] ?_
   refine jC rfl (fun K hK => ?_) (jC rfl (fun K hK => ?_) jN)
   have xx := X2.cells
   go_simp
   refine hK.out _ _ ⟨bk_rd X2, _, _, M2.B⟩ (fun hHeld => ?_)
   clear hK K xx
   try simp only [Act.put, jP]
   refine jR [14] ?_
   refine jC rfl (fun K hK => ?_) jN
   go_simp
   rw [← HVV]
   have hb3 : Below z2.heap.size z2 (z2.alloc (.cells #[.int .u64 vv] 22)) := (Below.refl _ _).alloc (Nat.le_refl _) _
   have X3 := X2.keep hb3
   have Z3 := Z2.keep hb3
   have M3 := M2.keep hb3
   have A3 := A2.keep hb3
   have TT3 := TT2.trans (Touch.of_below hb3)
   have R3 : Reads (z2.alloc (.cells #[.int .u64 vv] 22)) .u64 (.slice (some ⟨z2.heap.size, 0, none⟩) 1 1) [vv] := Reads.dn (l := [vv]) (t := 22) (Bk.new z2 _ _) qa70
   obtain ⟨gn, hgn⟩ : ∃ q, q = z2.heap.size := ⟨_, rfl⟩
   obtain ⟨z3, hz3⟩ : ∃ q, q = z2.alloc (.cells #[.int .u64 vv] 22) := ⟨_, rfl⟩
   rw [← hz3] at X3 Z3 M3 A3 TT3 R3 ⊢
   rw [← hgn] at R3 ⊢
   refine hK.out _ _ ⟨bk_rd X3, _, _, M3.B⟩ (fun hHeld => ?_)
   clear hK K hb3 hz3 hgn
   rotate_left
   go_simp
   rw [← HVV]
   have hb3 : Below z2.heap.size z2 (z2.alloc (.cells #[.int .u64 vv] 22)) := (Below.refl _ _).alloc (Nat.le_refl _) _
   have X3 := X2.keep hb3
   have Z3 := Z2.keep hb3
   have M3 := M2.keep hb3
   have A3 := A2.keep hb3
   have TT3 := TT2.trans (Touch.of_below hb3)
   have R3 : Reads (z2.alloc (.cells #[.int .u64 vv] 22)) .u64 (.slice (some ⟨z2.heap.size, 0, none⟩) 1 1) [vv] := Reads.dn (l := [vv]) (t := 22) (Bk.new z2 _ _) qa70
   obtain ⟨gn, hgn⟩ : ∃ q, q = z2.heap.size := ⟨_, rfl⟩
   obtain ⟨z3, hz3⟩ : ∃ q, q = z2.alloc (.cells #[.int .u64 vv] 22) := ⟨_, rfl⟩
   rw [← hz3] at X3 Z3 M3 A3 TT3 R3 ⊢
   rw [← hgn] at R3 ⊢
   refine hK.out _ _ ⟨bk_rd X3, _, _, M3.B⟩ (fun hHeld => ?_)
   clear hK K hb3 hz3 hgn
   try simp only [Act.put, jP]
   refine jR [1] ?_
   refine jC rfl (fun K hK => ?_) jN
   have xx := X3.cells
   go_simp
   refine hK.out _ _ ⟨bk_rd X3, _, _, M3.B⟩ (fun hHeld => ?_)
   clear hK K xx
   rotate_left
   all_goals
    try simp only [Act.put, jP]
    refine jR [15] ?_
    refine jC rfl (fun K hK => ?_) jN
    have hrl := HFR.out
    refine gV elemU rfl (.tmp 10) (.tmp 23) rfl z3.heap.size s.rd x.rd rfl A3.rd.1 HCP.out _ [vv] rfl R3 aF bq (Nat.le_refl _) ?_
    intro y4 z4 O4 hb4
    have X4 := X3.keep hb4
    have Z4 := Z3.keep hb4
    have M4 := M3.keep hb4
    have A4 := A3.keep hb4
    have TT4 := TT3.trans (Touch.of_below hb4)
    have sz3 := TT3.size
    have lz3 := Z3.lt
    have lz4 := Z4.lt
    have hb5 := hb4.size
    have x4 := X4.cells
    have f4 := X4.frozen
    have l4 := X4.lt
    have O5 : bD z3.heap.size z4 .u64 22 y4 (x.rd ++ [vv]) := O4
    have R5 : RdP (fun b => P b ∧ b ≠ w.heap.size ∧ b ≠ w.heap.size + 1) z4 .u64 y4 (x.rd ++ [vv]) := ⟨O5.reads, O5.rdF.2.imp_right fun q d hd => ⟨hP _ qa71, by have := q d hd; omega, by have := q d hd; omega⟩⟩
    refine hK.out _ _ ⟨bk_rd X4, _, _, M4.B⟩ (fun hHeld => ?_)
    clear hK K hrl
    try simp only [Act.put, jP]
    refine jT 16 (.pointer (some ⟨w.heap.size, 29, none⟩)) rfl hHeld ?_
    try simp only [Act.put, jP]
    refine jR [17] ?_
    refine jC rfl (fun K hK => ?_) jN
    have e29 : ((z4.cell? ⟨w.heap.size, 29, none⟩).isSome) = true := qa72
    go_simp
    have X5 : Bk (z4.setCell ⟨w.heap.size, 29, none⟩ y4.v) w.heap.size (wc ({ s with rd := y4 } : Wk)) 46 := X4.setCell 29 y4.v
    have M5 : aC B (z4.setCell ⟨w.heap.size, 29, none⟩ y4.v) g c (acc L 1 ka 0 0) gl cap L := M4.apart (g' := w.heap.size) (gl' := w.heap.size) ((Touch.refl _ _ _).setCell (p := ⟨w.heap.size, 29, none⟩) (.inl rfl) _) aj aj aj aj
    refine hK.out _ _ ⟨⟨y4, X5⟩, _, _, M5.B⟩ (fun hHeld => ?_)
    clear hK K
    try simp only [Act.put, jP]
    refine wpAnyH_done ah ?_ _
    clear hHeld x4 f4 l4 e29
    have Z5 := Z4.aA (a := ⟨w.heap.size, 29, none⟩) aF y4.v
    have A5 := A4.cell (g := w.heap.size) (fun q => q.2.1 rfl) 29 y4.v
    have R6 := R5.cell (g := w.heap.size) (fun q => q.2.1 rfl) 29 y4.v
    have B5 : aM (fun b => P b ∧ b ≠ w.heap.size ∧ b ≠ w.heap.size + 1) (z4.setCell ⟨w.heap.size, 29, none⟩ y4.v) ({ s with rd := y4 } : Wk) { x with rd := x.rd ++ [vv] } := ⟨A5.p, A5.rk, A5.l0, A5.l1, A5.l2, A5.hl, R6⟩
    have TT5 : Touch g gl w (z4.setCell ⟨w.heap.size, 29, none⟩ y4.v) := touchC TT4 (Nat.le_refl _) _
    obtain ⟨z5, hz5⟩ : ∃ q, q = z4.setCell ⟨w.heap.size, 29, none⟩ y4.v := ⟨_, rfl⟩
    have sz5 : z4.heap.size = z5.heap.size := by rw [hz5]; simp
    rw [← hz5] at X5 Z5 B5 M5 TT5 ⊢
    have HP' : ∀ b, z5.heap.size ≤ b → (P b ∧ b ≠ w.heap.size ∧ b ≠ w.heap.size + 1) := fun b hb => ⟨hP b aj, by omega, by omega⟩
    have HNX := Lib.hid (fNext HP' B5 M5)
    clear A5 R6 hz5
    go_wp2_with (first | (refine wpList_load_row rfl 46 _ rfl (w.heap.size) rfl _ (wc ({ s with rd := y4 } : Wk)) (0, 0) _ (by exact X5) Tryz.underlying46 rfl ah ?_))
    refine HNX.out.mono ?_
    rintro e w5 ⟨s5, rfl, A5, hb5⟩
    have Z6 := Z5.keep hb5
    have M6 := M5.keep hb5
    have TT6 := TT5.trans (Touch.of_below hb5)
    go_wp2_with (first | (refine wpList_store_row rfl 46 _ _ rfl (w.heap.size + 1) (wc s5) rfl rfl _ _ qa73 ah ah ah ?_))
    have ZF := Z6.setRow (wc s5)
    refine bodyPost_ret (v := .tuple #[wv s5, .int .i64 (fD c x), .bool true]) ?_ rfl ⟨_, rfl, (A5.row (g := w.heap.size + 1) (fun q => q.2.2 rfl) _).mono (fun b _ q => q.1), M6.apart (g' := w.heap.size + 1) (gl' := w.heap.size + 1) ((Touch.refl _ _ _).setRow _) aj aj aj aj, jH TT6 aj _⟩
    exact Rw.results_cell_slot2 (p := 6) (q := 7) (r := 8) (ty := 46) Tryz.results156 _ _ (w.heap.size + 1) 46 _ (0, 0) _ rfl ZF Tryz.underlying46 rfl ah
theorem fReadB {P : Nat → Prop} {B : Nat} {w : World} {g gl cap : Nat} {c : Cfg} {a : Acc} {L : List Int} (M : aC B w g c a gl cap L) (hf : c.Wf) (hm : L.length ≤ 1000) (s : Wk) (x : St) (hx : Few 1000 x) (hP : ∀ b, w.heap.size ≤ b → P b) (hG : ∀ b, P b → b ≠ g ∧ b ≠ gl) (A : aM P w s x) (hcp : s.rd.cap = s.rd.len) (wk : Int) :
  Calls Tryz.prog 158 #[.pointer (some ⟨g, 0, none⟩), .int .i64 wk, wv s] w (GSP P B g gl cap c (jE c a L x x.p.br) w) := by
 have mlt := M.lt
 have f28 : ∀ s : Wk, (wc s)[28]? = some (.int .i64 s.p.j) := fun _ => rfl
 have f22 : ∀ s : Wk, (wc s)[22]? = some (.int .i64 s.p.br) := fun _ => rfl
 have T0 := Two.start w s
 have AQ := (A.mono (Q := fun b => P b ∧ b ≠ w.heap.size ∧ b ≠ w.heap.size + 1) (fun b hb q => ⟨q, by omega, by omega⟩)).keep T0.below
 obtain ⟨v0, hv0⟩ : ∃ u, u = (w.alloc (.cells (wc s) 46)).alloc (.cells (wc wz) 46) := ⟨_, rfl⟩
 rw [← hv0] at T0 AQ
 have x0 := T0.X.cells
 have z0 := T0.X.frozen
 have M0 := M.keep T0.below
 have lt0 := T0.lt
 have ll0 := T0.below.size
 have ep := A.p
 have HCP := Lib.hid hcp
 have HFR := Lib.hid hx.rd
 obtain ⟨b1, hb1⟩ : ∃ k, k = wrap64 (x.p.br - 1) := ⟨_, rfl⟩
 have hb1' : IntKind.i64.wrap (x.p.br - 1) = b1 := (IntWalk.i64_left _).trans hb1.symm
 obtain ⟨ka, hka⟩ : ∃ k, k = aWrd c b1 x.p.j := ⟨_, rfl⟩
 obtain ⟨vv, hvv⟩ : ∃ v, v = ldV L ka := ⟨_, rfl⟩
 have q28 : (wc s)[28]? = some (.int .i64 x.p.j) := by rw [f28, ep]
 have q22 : (wc s)[22]? = some (.int .i64 x.p.br) := by rw [f22, ep]
 have q28' : ∀ y, (wc ({ s with rd := y } : Wk))[28]? = some (.int .i64 x.p.j) := fun y => by rw [f28, ← ep]
 have q22' : ∀ y, (wc ({ s with rd := y } : Wk))[22]? = some (.int .i64 x.p.br) := fun y => by rw [f22, ← ep]
 have q29 : (wc s)[29]? = some (.slice s.rd.ad s.rd.len s.rd.cap) := rfl
 have HWD := Lib.hid (fun w => hka ▸ word c hf b1 x.p.j w)
 have hR : jE c a L x x.p.br = ⟨acc L 1 ka 0 0, L, jJ { x with rd := x.rd ++ [vv] }, fD c x, true⟩ := by unfold jE readW; rw [← hb1, ← hka, ← hvv]
 rw [hR]
 obtain ⟨jj, hjj⟩ : ∃ j, j = x.p.j := ⟨_, rfl⟩
 obtain ⟨bb, hbb⟩ : ∃ j, j = x.p.br := ⟨_, rfl⟩
 rw [← hjj] at q28 HWD
 rw [← hbb] at q22 hb1'
 simp only [← hjj] at q28'
 simp only [← hbb] at q22'
 have HVV := hvv
 clear hb1 hka ep f28 f22 hR hjj hbb hcp hvv
 go_enter Tryz.func158, Tryz.ntmps158
 go_wp2_with (first | ((with_reducible refine au rfl rfl ?_); rw [← hv0]; clear hv0))
 have hz0 : Below v0.heap.size v0 v0.drew := Below.drew (Below.refl _ _)
 refine wp_region_held_drew (S := fun w' => (∃ y, Bk w' w.heap.size (wc ({ s with rd := y } : Wk)) 46) ∧ ∃ a' y', Bk w' g (mc c a' y') 99) ah ⟨bk_rd (T0.X.keep hz0), _, _, (M0.keep hz0).B⟩ (fun hHeld => ?_)
 have XA := T0.X.keep hz0
 have ZA := T0.Z.keep hz0
 have MA := M0.keep hz0
 have AA := AQ.keep hz0
 have TTA : Touch g gl w v0.drew := Touch.of_below (T0.below.trans (hz0.mono ll0))
 generalize v0.drew = z0' at *
 refine jT 0 (.pointer (some ⟨w.heap.size, 29, none⟩)) rfl hHeld ?_
 try simp only [Act.put, jP]
 refine jT 2 (.pointer (some ⟨g, 0, none⟩)) rfl hHeld ?_
 try simp only [Act.put, jP]
 refine jT 3 (.pointer (some ⟨g, 0, none⟩)) rfl hHeld ?_
 try simp only [Act.put, jP]
 refine jT 4 (.pointer (some ⟨g, 0, none⟩)) rfl hHeld ?_
 try simp only [Act.put, jP]
 refine jT 5 (.pointer (some ⟨g, 0, none⟩)) rfl hHeld ?_
 try simp only [Act.put, jP]
 refine jY 6 (cv c) rfl (Or.inl ⟨by rfl, fun w' hSw => by obtain ⟨_, _, _, hBB⟩ := hSw; have xx := hBB.cells; go_simp⟩) hHeld ?_
 try simp only [Act.put, jP]
 refine jT 7 (.pointer (some ⟨w.heap.size, 22, none⟩)) rfl hHeld ?_
 try simp only [Act.put, jP]
 refine jY 8 (.int .i64 bb) rfl (Or.inl ⟨by rfl, fun w' hSw => by obtain ⟨⟨_, hXX⟩, _⟩ := hSw; have xx := hXX.cells; go_simp⟩) hHeld ?_
 try simp only [Act.put, jP]
 refine jT 9 (.int .i64 b1) rfl hHeld ?_
 try simp only [Act.put, jP]
 refine jT 10 (.pointer (some ⟨w.heap.size, 28, none⟩)) rfl hHeld ?_
 try simp only [Act.put, jP]
 refine jY 11 (.int .i64 jj) rfl (Or.inl ⟨by rfl, fun w' hSw => by obtain ⟨⟨_, hXX⟩, _⟩ := hSw; have xx := hXX.cells; go_simp⟩) hHeld ?_
 try simp only [Act.put, jP]
 refine jR [1, 12] ?_
 refine jC rfl (fun K hK => ?_) (jC rfl (fun K hK => ?_) jN)
 ·have xx := XA.cells
  go_simp
  refine hK.out _ _ ⟨bk_rd XA, _, _, MA.B⟩ (fun hHeld => ?_)
  clear hK K xx
  try simp only [Act.put, jP]
  refine jR [12] ?_
  refine jC rfl (fun K hK => ?_) jN
  go_simp
  refine (HWD.out _).mono ?_
  rintro e z1 ⟨rfl, hb⟩
  have X1 := XA.keep hb
  have Z1 := ZA.keep hb
  have M1 := MA.keep hb
  have A1 := AA.keep hb
  have TT1 := TTA.trans (Touch.of_below hb)
  refine hK.out _ _ ⟨bk_rd X1, _, _, M1.B⟩ (fun hHeld => ?_)
  clear hK K hb
  exact qa3s
 ·go_simp
  refine (HWD.out _).mono ?_
  rintro e z1 ⟨rfl, hb⟩
  have X1 := XA.keep hb
  have Z1 := ZA.keep hb
  have M1 := MA.keep hb
  have A1 := AA.keep hb
  have TT1 := TTA.trans (Touch.of_below hb)
  refine hK.out _ _ ⟨bk_rd X1, _, _, M1.B⟩ (fun hHeld => ?_)
  clear hK K hb
  try simp only [Act.put, jP]
  refine jR [1, 13] ?_
  refine jC rfl (fun K hK => ?_) (jC rfl (fun K hK => ?_) jN)
  ·have xx := X1.cells
   go_simp
   refine hK.out _ _ ⟨bk_rd X1, _, _, M1.B⟩ (fun hHeld => ?_)
   clear hK K xx
   exact qa3s
  ·go_simp
   refine (bF M1 hm ka).mono ?_
   rintro e z2 ⟨rfl, M2, T2⟩
   have X2 := T2.bk X1 aj aj
   have Z2 := T2.bk Z1 aj aj
   have A2 : aM (fun b => P b ∧ b ≠ w.heap.size ∧ b ≠ w.heap.size + 1) z2 s x := ⟨A1.p, fF A1.rk T2 (fun b q => (hG b q.1).1) (fun b q => (hG b q.1).2), fF A1.l0 T2 (fun b q => (hG b q.1).1) (fun b q => (hG b q.1).2), fF A1.l1 T2 (fun b q => (hG b q.1).1) (fun b q => (hG b q.1).2), fF A1.l2 T2 (fun b q => (hG b q.1).1) (fun b q => (hG b q.1).2), fF A1.hl T2 (fun b q => (hG b q.1).1) (fun b q => (hG b q.1).2), fF A1.rd T2 (fun b q => (hG b q.1).1) (fun b q => (hG b q.1).2)⟩
   have TT2 := TT1.trans T2
   refine hK.out _ _ ⟨bk_rd X2, _, _, M2.B⟩ (fun hHeld => ?_)
   clear hK K
   try simp only [Act.put, jP]
   refine jR [1, 14] ?_
   refine jC rfl (fun K hK => ?_) (jC rfl (fun K hK => ?_) jN)
   have xx := X2.cells
   go_simp
   refine hK.out _ _ ⟨bk_rd X2, _, _, M2.B⟩ (fun hHeld => ?_)
   clear hK K xx
   try simp only [Act.put, jP]
   refine jR [14] ?_
   refine jC rfl (fun K hK => ?_) jN
   go_simp
   rw [← HVV]
   have hb3 : Below z2.heap.size z2 (z2.alloc (.cells #[.int .u64 vv] 22)) := (Below.refl _ _).alloc (Nat.le_refl _) _
   have X3 := X2.keep hb3
   have Z3 := Z2.keep hb3
   have M3 := M2.keep hb3
   have A3 := A2.keep hb3
   have TT3 := TT2.trans (Touch.of_below hb3)
   have R3 : Reads (z2.alloc (.cells #[.int .u64 vv] 22)) .u64 (.slice (some ⟨z2.heap.size, 0, none⟩) 1 1) [vv] := Reads.dn (l := [vv]) (t := 22) (Bk.new z2 _ _) qa70
   obtain ⟨gn, hgn⟩ : ∃ q, q = z2.heap.size := ⟨_, rfl⟩
   obtain ⟨z3, hz3⟩ : ∃ q, q = z2.alloc (.cells #[.int .u64 vv] 22) := ⟨_, rfl⟩
   rw [← hz3] at X3 Z3 M3 A3 TT3 R3 ⊢
   rw [← hgn] at R3 ⊢
   refine hK.out _ _ ⟨bk_rd X3, _, _, M3.B⟩ (fun hHeld => ?_)
   clear hK K hb3 hz3 hgn
   rotate_left
   go_simp
   rw [← HVV]
   have hb3 : Below z2.heap.size z2 (z2.alloc (.cells #[.int .u64 vv] 22)) := (Below.refl _ _).alloc (Nat.le_refl _) _
   have X3 := X2.keep hb3
   have Z3 := Z2.keep hb3
   have M3 := M2.keep hb3
   have A3 := A2.keep hb3
   have TT3 := TT2.trans (Touch.of_below hb3)
   have R3 : Reads (z2.alloc (.cells #[.int .u64 vv] 22)) .u64 (.slice (some ⟨z2.heap.size, 0, none⟩) 1 1) [vv] := Reads.dn (l := [vv]) (t := 22) (Bk.new z2 _ _) qa70
   obtain ⟨gn, hgn⟩ : ∃ q, q = z2.heap.size := ⟨_, rfl⟩
   obtain ⟨z3, hz3⟩ : ∃ q, q = z2.alloc (.cells #[.int .u64 vv] 22) := ⟨_, rfl⟩
   rw [← hz3] at X3 Z3 M3 A3 TT3 R3 ⊢
   rw [← hgn] at R3 ⊢
   refine hK.out _ _ ⟨bk_rd X3, _, _, M3.B⟩ (fun hHeld => ?_)
   clear hK K hb3 hz3 hgn
   try simp only [Act.put, jP]
   refine jR [1] ?_
   refine jC rfl (fun K hK => ?_) jN
   have xx := X3.cells
   go_simp
   refine hK.out _ _ ⟨bk_rd X3, _, _, M3.B⟩ (fun hHeld => ?_)
   clear hK K xx
   rotate_left
   all_goals
    try simp only [Act.put, jP]
    refine jR [15] ?_
    refine jC rfl (fun K hK => ?_) jN
    have hrl := HFR.out
    refine gV elemU rfl (.tmp 10) (.tmp 23) rfl z3.heap.size s.rd x.rd rfl A3.rd.1 HCP.out _ [vv] rfl R3 aF bq (Nat.le_refl _) ?_
    intro y4 z4 O4 hb4
    have X4 := X3.keep hb4
    have Z4 := Z3.keep hb4
    have M4 := M3.keep hb4
    have A4 := A3.keep hb4
    have TT4 := TT3.trans (Touch.of_below hb4)
    have sz3 := TT3.size
    have lz3 := Z3.lt
    have lz4 := Z4.lt
    have hb5 := hb4.size
    have x4 := X4.cells
    have f4 := X4.frozen
    have l4 := X4.lt
    have O5 : bD z3.heap.size z4 .u64 22 y4 (x.rd ++ [vv]) := O4
    have R5 : RdP (fun b => P b ∧ b ≠ w.heap.size ∧ b ≠ w.heap.size + 1) z4 .u64 y4 (x.rd ++ [vv]) := ⟨O5.reads, O5.rdF.2.imp_right fun q d hd => ⟨hP _ qa71, by have := q d hd; omega, by have := q d hd; omega⟩⟩
    refine hK.out _ _ ⟨bk_rd X4, _, _, M4.B⟩ (fun hHeld => ?_)
    clear hK K hrl
    try simp only [Act.put, jP]
    refine jT 16 (.pointer (some ⟨w.heap.size, 29, none⟩)) rfl hHeld ?_
    try simp only [Act.put, jP]
    refine jR [17] ?_
    refine jC rfl (fun K hK => ?_) jN
    have e29 : ((z4.cell? ⟨w.heap.size, 29, none⟩).isSome) = true := qa72
    go_simp
    have X5 : Bk (z4.setCell ⟨w.heap.size, 29, none⟩ y4.v) w.heap.size (wc ({ s with rd := y4 } : Wk)) 46 := X4.setCell 29 y4.v
    have M5 : aC B (z4.setCell ⟨w.heap.size, 29, none⟩ y4.v) g c (acc L 1 ka 0 0) gl cap L := M4.apart (g' := w.heap.size) (gl' := w.heap.size) ((Touch.refl _ _ _).setCell (p := ⟨w.heap.size, 29, none⟩) (.inl rfl) _) aj aj aj aj
    refine hK.out _ _ ⟨⟨y4, X5⟩, _, _, M5.B⟩ (fun hHeld => ?_)
    clear hK K
    try simp only [Act.put, jP]
    refine wpAnyH_done ah ?_ _
    clear hHeld x4 f4 l4 e29
    have Z5 := Z4.aA (a := ⟨w.heap.size, 29, none⟩) aF y4.v
    have A5 := A4.cell (g := w.heap.size) (fun q => q.2.1 rfl) 29 y4.v
    have R6 := R5.cell (g := w.heap.size) (fun q => q.2.1 rfl) 29 y4.v
    have B5 : aM (fun b => P b ∧ b ≠ w.heap.size ∧ b ≠ w.heap.size + 1) (z4.setCell ⟨w.heap.size, 29, none⟩ y4.v) ({ s with rd := y4 } : Wk) { x with rd := x.rd ++ [vv] } := ⟨A5.p, A5.rk, A5.l0, A5.l1, A5.l2, A5.hl, R6⟩
    have TT5 : Touch g gl w (z4.setCell ⟨w.heap.size, 29, none⟩ y4.v) := touchC TT4 (Nat.le_refl _) _
    obtain ⟨z5, hz5⟩ : ∃ q, q = z4.setCell ⟨w.heap.size, 29, none⟩ y4.v := ⟨_, rfl⟩
    have sz5 : z4.heap.size = z5.heap.size := by rw [hz5]; simp
    rw [← hz5] at X5 Z5 B5 M5 TT5 ⊢
    have HP' : ∀ b, z5.heap.size ≤ b → (P b ∧ b ≠ w.heap.size ∧ b ≠ w.heap.size + 1) := fun b hb => ⟨hP b aj, by omega, by omega⟩
    have HNX := Lib.hid (fNext HP' B5 M5)
    clear A5 R6 hz5
    go_wp2_with (first | (refine wpList_load_row rfl 46 _ rfl (w.heap.size) rfl _ (wc ({ s with rd := y4 } : Wk)) (0, 0) _ (by exact X5) Tryz.underlying46 rfl ah ?_))
    refine HNX.out.mono ?_
    rintro e w5 ⟨s5, rfl, A5, hb5⟩
    have Z6 := Z5.keep hb5
    have M6 := M5.keep hb5
    have TT6 := TT5.trans (Touch.of_below hb5)
    go_wp2_with (first | (refine wpList_store_row rfl 46 _ _ rfl (w.heap.size + 1) (wc s5) rfl rfl _ _ qa73 ah ah ah ?_))
    have ZF := Z6.setRow (wc s5)
    refine bodyPost_ret (v := .tuple #[wv s5, .int .i64 (fD c x), .bool true]) ?_ rfl ⟨_, rfl, (A5.row (g := w.heap.size + 1) (fun q => q.2.2 rfl) _).mono (fun b _ q => q.1), M6.apart (g' := w.heap.size + 1) (gl' := w.heap.size + 1) ((Touch.refl _ _ _).setRow _) aj aj aj aj, jH TT6 aj _⟩
    exact Rw.results_cell_slot2 (p := 6) (q := 7) (r := 8) (ty := 46) Tryz.results158 _ _ (w.heap.size + 1) 46 _ (0, 0) _ rfl ZF Tryz.underlying46 rfl ah
end Go.Proofs.YtaiodbcnbcdokaaGreat.Me
