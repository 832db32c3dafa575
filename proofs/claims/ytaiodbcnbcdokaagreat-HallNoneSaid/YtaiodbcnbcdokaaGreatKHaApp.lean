/- Part HaApp. -/
import Derived.Test.YtaiodbcnbcdokaaGreatKHaEv
set_option linter.unusedVariables false
set_option linter.unusedSimpArgs false
set_option linter.unusedSectionVars false
set_option maxRecDepth 100000
set_option maxHeartbeats 16000000
section
namespace Go.Proofs.YtaiodbcnbcdokaaGreat.Ha
open Go Go.RowKit Go.ChangeMaps Gro Own Wd Ap Go.Proofs.YtaiodbcnbcdokaaGreat.Pl Wo Me Shp Opn
structure Fr (M : Nat → Prop) (w w' : World) : Prop where
 os : w'.os = w.os
 tape : w'.tape = w.tape
 output : w'.output = w.output
 size : w.heap.size ≤ w'.heap.size
 block : ∀ b, b < w.heap.size → ¬ M b → w'.heap[b]? = w.heap[b]?
section
variable {M N : Nat → Prop} {w w1 w2 w' : World}
theorem Fr.refl (M : Nat → Prop) (w : World) : Fr M w w := ⟨rfl, rfl, rfl, Nat.le_refl _, fun _ _ _ => rfl⟩
theorem Fr.trans (h : Fr M w w1) (k : Fr N w1 w2) (hn : ∀ b, b < w.heap.size → N b → M b) : Fr M w w2 :=
 ⟨k.os.trans h.os, k.tape.trans h.tape, k.output.trans h.output, Nat.le_trans h.size k.size, fun b hb hm => (k.block b (Nat.lt_of_lt_of_le hb h.size) (fun q => hm (hn b hb q))).trans (h.block b hb hm)⟩
theorem Fr.below (h : Below w.heap.size w w') : Fr M w w' := ⟨h.os, h.tape, h.output, h.size, fun b hb _ => h.block b hb⟩
theorem Fr.touch {g gl : Nat} (h : Me.Touch g gl w w') (h1 : M g) (h2 : M gl) : Fr M w w' := ⟨h.os, h.tape, h.output, h.size, fun b hb hm => h.block b hb (fun e => hm (e ▸ h1)) (fun e => hm (e ▸ h2))⟩
theorem Fr.cell {g j : Nat} {v : Value} (hg : M g) : Fr M w (w.setCell ⟨g, j, none⟩ v) := ⟨rfl, rfl, rfl, by simp, fun b hb hm => heap_setCell_other w ⟨g, j, none⟩ b v (fun (e : b = g) => hm (e ▸ hg))⟩
theorem Fr.row {g : Nat} {cs : Array Value} (hg : M g) : Fr M w (w.setRow g cs) := ⟨rfl, rfl, rfl, by simp, fun b hb hm => setRow_other w g b cs (fun (e : b = g) => hm (e ▸ hg))⟩
theorem Fr.grown {row : Option Nat} (h : w.grownBy w' row) (hr : ∀ b, row = some b → M b) : Fr M w w' := ⟨h.os, h.tape, h.output, h.size, fun b hb hm => h.block b hb (fun e => hm (hr b e.symm))⟩
theorem Fr.agr {P : Nat → Prop} (h : Fr M w w') (hp : ∀ b, P b → ¬ M b) : Agr P w w' := ⟨h.size, fun b hb q => h.block b hb (hp b q)⟩
theorem Fr.belowB {B : Nat} (h : Fr M w w') (hM : ∀ b, M b → B ≤ b) (hB : B ≤ w.heap.size) : Below B w w' := ⟨h.os, h.tape, h.output, h.size, fun b hb => h.block b aj (fun q => by have := hM b q; omega)⟩
theorem Fr.bk (h : Fr M w w') {b : Nat} {cs : Array Value} {t : TypeId} (hb : Bk w b cs t) (hm : ¬ M b) : Bk w' b cs t := (h.block b hb.lt hm).trans hb
end
def SS (S : Nat → Prop) (w w' : World) (b : Nat) : Prop := S b ∨ (w.heap.size ≤ b ∧ b < w'.heap.size)
structure HP (S : Nat → Prop) (g : HG) (c : Cfg) (R : HR) (w : World) (R' : HR) (H' : HD) (w' : World) : Prop where
 ha : HA (SS S w w') w' g c R' H'
 fr : Fr (dz g R) w w'
 mt : ∀ b, dz g R' b → dz g R b ∨ w.heap.size ≤ b
 len : R'.rs.length = R.rs.length
section
variable {S : Nat → Prop} {w w1 w2 w' : World} {g : HG} {c : Cfg} {R R1 R2 : HR} {H H1 H2 : HD}
theorem HP.refl (h : HA S w g c R H) : HP S g c R w R H w := ⟨h.wider (fun b q => .inl q) (fun b q => q.elim (h.lt b) (fun q => q.2)), Fr.refl _ _, fun b q => .inl q, rfl⟩
theorem HP.trans (h : HP S g c R w R1 H1 w1) (k : HP (SS S w w1) g c R1 w1 R2 H2 w2) : HP S g c R w R2 H2 w2 := by
 have hs := h.fr.size
 have hs2 := k.fr.size
 refine ⟨k.ha.wider (fun b q => ?_) (fun b q => ?_), h.fr.trans k.fr fun b hb q => ?_, fun b q => ?_, k.len.trans h.len⟩
 ·rcases q with (q | q) | q
  ·exact .inl q
  ·exact .inr ⟨q.1, Nat.lt_of_lt_of_le q.2 hs2⟩
  ·exact .inr ⟨Nat.le_trans hs q.1, q.2⟩
 ·rcases q with q | q
  ·exact Nat.lt_of_lt_of_le (h.ha.lt b (.inl q)) hs2
  ·exact q.2
 ·rcases h.mt b q with q | q
  ·exact q
  ·omega
 ·rcases k.mt b q with q | q
  ·exact h.mt b q
  ·exact .inr (Nat.le_trans hs q)
theorem HP.keep (h : HP S g c R w R1 H1 w1) (hb : Below w1.heap.size w1 w2) : HP S g c R w R1 H1 w2 :=
 ⟨(h.ha.keep hb).wider (fun b q => q.imp_right fun q => ⟨q.1, Nat.lt_of_lt_of_le q.2 hb.size⟩) (fun b q => q.elim (fun q => Nat.lt_of_lt_of_le (h.ha.lt b (.inl q)) hb.size) fun q => q.2), h.fr.trans (Fr.below hb (M := fun _ => False)) fun b _ q => q.elim, h.mt, h.len⟩
theorem HP.of (h : HA S w' g c R1 H1) (fr : Fr (dz g R) w w') (hm : ∀ b, dz g R1 b → dz g R b ∨ w.heap.size ≤ b) (hl : R1.rs.length = R.rs.length) : HP S g c R w R1 H1 w' := ⟨h.wider (fun b q => .inl q) (fun b q => q.elim (h.lt b) (fun q => q.2)), fr, hm, hl⟩
theorem HA.evApp (h : HA S w g c R H) (e : Ev) (p : PE) {y : Sl} {w1 w2 : World} (hb1 : Below w.heap.size w w1)
  (he : EvA (fun b => SS S w w1 b ∧ ¬ dz g R b) w1 e p)
  (ho : w2.ownsRow 0 ETy 20 y.v (R.es.length + 1) (evC R.es ++ (ec e).toList)) (hg : w1.grownBy w2 R.ev.v.ownBlock) (hy : y.v.ownBlock = R.ev.v.ownBlock ∨ y.v.ownBlock = some w1.heap.size) :
  HP S g c R w { R with ev := y, es := R.es ++ [e] } { H with ev := H.ev ++ [p] } (w2.setCell ⟨g.h, 2, none⟩ y.v) := by
 have hs1 := hb1.size
 have hs2 := hg.size
 have h1 := h.keep hb1
 obtain ⟨n1, n2, n3, n4, n5⟩ := h1.mu.ne_h
 have lts : g.m < w1.heap.size ∧ g.l < w1.heap.size := h1.mu.mem.lt
 have lth := h1.mu.box.lt
 have ltw := h1.mu.row.lt
 -- the blocks of the new row
 have hyb : ∀ b, blk y b → blk R.ev b ∨ b = w1.heap.size := fun b hb => qa1j
 have hyb2 : ∀ b, b < w1.heap.size → blk y b → blk R.ev b := fun b hb q => by
  rcases hyb b q with q | q
  ·exact q
  ·omega
 have hyh : ¬ blk y g.h := fun q => n4 _ (hyb2 _ lth q) rfl
 have a1 : ∀ (P : Nat → Prop), (∀ b, P b → ¬ blk R.ev b) → (∀ b, P b → b ≠ g.h) → Agr P w1 (w2.setCell ⟨g.h, 2, none⟩ y.v) := fun P q1 q2 =>
  (Agr.grown hg (fun b hp e => q1 b hp (blk_iff.2 e.symm))).trans (Agr.cell (fun q => q2 _ q rfl))
 have mb : ∀ b, dz g { R with ev := y, es := R.es ++ [e] } b → dz g R b ∨ (b = w1.heap.size ∧ b < w2.heap.size) := fun b q => by
  rcases q with q | q | q | q | q | q
  ·exact .inl (.inl q)
  ·exact .inl (.inr (.inl q))
  ·exact .inl (.inr (.inr (.inl q)))
  ·exact .inl (.inr (.inr (.inr (.inl q))))
  ·rcases hyb b q with q' | q'
   ·exact .inl (.inr (.inr (.inr (.inr (.inl q')))))
   ·exact .inr ⟨q', (World.ownsRow.lt ho b (blk_iff.1 q)).2⟩
  ·exact .inl (.inr (.inr (.inr (.inr (.inr q)))))
 let R1 : HR := { R with ev := y, es := R.es ++ [e] }
 have ag := a1 (fun b => SS S w w1 b ∧ ¬ dz g R b ∧ ¬ dz g R1 b) (fun b q e => q.2.1 (.inr (.inr (.inr (.inr (.inl e)))))) (fun b q e => q.2.1 (.inl e))
 have both : ∀ b, b < w1.heap.size → SS S w w1 b ∧ ¬ dz g R b → SS S w w1 b ∧ ¬ dz g R b ∧ ¬ dz g R1 b := fun b hb q => ⟨q.1, q.2, fun e => by
  rcases mb b e with e | e
  ·exact q.2 e
  ·omega⟩
 have l1 := ((h1.ls.mono (Q := fun b => SS S w w1 b ∧ ¬ dz g R b) fun b _ q => ⟨.inl q.1, q.2⟩).mono both).agr ag
 have e1 := (he.mono both).agr ag
 have sz : w1.heap.size ≤ (w2.setCell ⟨g.h, 2, none⟩ y.v).heap.size := by simpa using hs2
 have fin : ∀ b, b < (w2.setCell ⟨g.h, 2, none⟩ y.v).heap.size → SS S w w1 b ∧ ¬ dz g R b ∧ ¬ dz g R1 b → SS S w (w2.setCell ⟨g.h, 2, none⟩ y.v) b ∧ ¬ dz g R1 b := fun b _ q => ⟨q.1.imp_right fun z => ⟨z.1, Nat.lt_of_lt_of_le z.2 sz⟩, q.2.2⟩
 have l3 := l1.mono fin
 have e3 := e1.mono fin
 refine ⟨⟨⟨l3.len, l3.wk, by simp [l3.evl], fun i q q' => ?_⟩, ⟨?_, ?_, ?_, ?_, fun i q q' => ?_, h1.mu.tdl, h1.mu.tdne⟩, fun b q => ?_, fun b q => ?_⟩, ?_, fun b q => ?_, rfl⟩
 ·by_cases hi : i < R.es.length
  ·have hi' : i < H.ev.length := by have := h.ls.evl; omega
   have k := l3.evw i hi hi'
   show EvA _ _ (R.es ++ [e])[i] (H.ev ++ [p])[i]
   rw [List.getElem_append_left hi, List.getElem_append_left hi']
   exact k
  ·have e0 : i = R.es.length := by simp at q; omega
   subst e0
   show EvA _ _ (R.es ++ [e])[R.es.length] (H.ev ++ [p])[R.es.length]
   have hl := h.ls.evl
   rw [List.getElem_append_right aj, List.getElem_append_right aj]
   simpa using e3
 ·have hb := (eH h1.mu.box (Agr.grown (P := fun b => ¬ blk R.ev b) hg (fun b hp e => hp (blk_iff.2 e.symm))) (fun q => n4 _ q rfl)).setCell 2 y.v
  exact hb
 ·exact mem_agr h1.mu.mem (a1 (fun b => b = g.m ∨ b = g.l) (fun b q => by rcases q with rfl | rfl; exact fun z => (h1.mu.ne_ev z).1 rfl; exact fun z => (h1.mu.ne_ev z).2.1 rfl) (fun b q => by rcases q with rfl | rfl; exact n1; exact n2)) (.inl rfl) (.inr rfl)
 ·exact eH h1.mu.row (a1 (fun b => b = g.w) (fun b q => by subst q; exact fun z => (h1.mu.ne_ev z).2.2.2.1 rfl) (fun b q => by subst q; exact n3)) rfl
 ·have ho2 : (w2.setCell ⟨g.h, 2, none⟩ y.v).ownsRow 0 ETy 20 y.v (R.es.length + 1) (evC R.es ++ (ec e).toList) := dO ho (Agr.cell (P := fun b => blk y b) hyh) (fun d hd => ⟨d, hd, rfl⟩)
  have e4 : evC (R.es ++ [e]) = evC R.es ++ (ec e).toList := by unfold evC; simp
  show World.ownsRow _ 0 ETy 20 y.v (R.es ++ [e]).length (evC (R.es ++ [e]))
  rw [e4, List.length_append, List.length_singleton]
  exact ho2
 ·exact dO (h1.mu.td i q q') (a1 (fun b => blk R.rs[i].td b) (fun b hb z => (h1.mu.ne_ev z).2.2.2.2 i q q' b hb rfl) (fun b hb => n5 i q q' b hb)) (fun d hd => ⟨d, hd, rfl⟩)
 ·rcases mb b q with q | q
  ·exact .inl (h.sub b q)
  ·exact .inr ⟨by omega, by simpa using q.2⟩
 ·rcases q with q | q
  ·exact Nat.lt_of_lt_of_le (h1.lt b q) sz
  ·exact q.2
 ·exact ((Fr.below hb1 (M := dz g R)).trans (Fr.grown hg (M := dz g R) (fun b q => .inr (.inr (.inr (.inr (.inl (blk_iff.2 q))))))) (fun b _ q => q)).trans (Fr.cell (M := dz g R) (.inl rfl)) (fun b _ q => q)
 ·rcases mb b q with q | q
  ·exact .inl q
  ·exact .inr aj
end
end Go.Proofs.YtaiodbcnbcdokaaGreat.Ha
end
section
namespace Go.Proofs.YtaiodbcnbcdokaaGreat.Ha
open Go Go.RowKit Go.ChangeMaps Gro Own Wd Ap Go.Proofs.YtaiodbcnbcdokaaGreat.Pl Wo Me Shp Opn
section
variable {S : Nat → Prop} {w w1 w2 w' : World} {g : HG} {c : Cfg} {R R1 R2 : HR} {H H1 H2 : HD}
theorem HA.tdApp (h : HA S w g c R H) {i : Nat} (hi : i < R.rs.length) (hi' : i < H.ws.length) (t : Int) {y : Sl} {w1 w2 : World} (hb1 : Below w.heap.size w w1)
  (ho : w2.ownsRow 0 UTy 1 y.v (H.ws[i].told.length + 1) (H.ws[i].told.map (.int .u64) ++ [.int .u64 t])) (hg : w1.grownBy w2 R.rs[i].td.v.ownBlock) (hy : y.v.ownBlock = R.rs[i].td.v.ownBlock ∨ y.v.ownBlock = some w1.heap.size) :
  HP S g c R w { R with rs := R.rs.set i { R.rs[i] with td := y } } { H with ws := H.ws.set i { H.ws[i] with told := H.ws[i].told ++ [t] } } (w2.setCell ⟨g.w, 36 * i + 35, none⟩ y.v) := by
 have hs1 := hb1.size
 have hs2 := hg.size
 have h1 := h.keep hb1
 obtain ⟨n1, n2, n3, n4, n5⟩ := h1.mu.ne_w
 have ltm : g.m < w1.heap.size ∧ g.l < w1.heap.size := h1.mu.mem.lt
 have lth := h1.mu.box.lt
 have ltw := h1.mu.row.lt
 have hyb : ∀ b, blk y b → blk R.rs[i].td b ∨ b = w1.heap.size := fun b hb => qa1j
 have hyb2 : ∀ b, b < w1.heap.size → blk y b → blk R.rs[i].td b := fun b hb q => by
  rcases hyb b q with q | q
  ·exact q
  ·omega
 have hyw : ¬ blk y g.w := fun q => n5 i hi hi' _ (hyb2 _ ltw q) rfl
 let r : WkR := { R.rs[i] with td := y }
 let R1 : HR := { R with rs := R.rs.set i r }
 have a1 : ∀ (P : Nat → Prop), (∀ b, P b → ¬ blk R.rs[i].td b) → (∀ b, P b → b ≠ g.w) → Agr P w1 (w2.setCell ⟨g.w, 36 * i + 35, none⟩ y.v) := fun P q1 q2 =>
  (Agr.grown hg (fun b hp e => q1 b hp (blk_iff.2 e.symm))).trans (Agr.cell (fun q => q2 _ q rfl))
 have at1 : ∀ j (q : j < (R.rs.set i r).length), (R.rs.set i r)[j] = if i = j then r else R.rs[j]'qa64 := fun j q => List.getElem_set q
 have mb : ∀ b, dz g R1 b → dz g R b ∨ (b = w1.heap.size ∧ b < w2.heap.size) := fun b q => by
  rcases q with q | q | q | q | q | q
  ·exact .inl (.inl q)
  ·exact .inl (.inr (.inl q))
  ·exact .inl (.inr (.inr (.inl q)))
  ·exact .inl (.inr (.inr (.inr (.inl q))))
  ·exact .inl (.inr (.inr (.inr (.inr (.inl q)))))
  ·obtain ⟨z, hz, hb⟩ := q
   obtain ⟨j, hj, rfl⟩ := List.mem_iff_getElem.1 hz
   have hj2 : j < R.rs.length := by simpa [R1] using hj
   have e := at1 j hj
   by_cases ij : i = j
   ·rw [if_pos ij] at e
    have hb2 : blk y b := by
     have : blk ((R.rs.set i r)[j]).td b := hb
     rw [e] at this
     exact this
    rcases hyb b hb2 with q | q
    ·exact .inl (.inr (.inr (.inr (.inr (.inr ⟨_, List.getElem_mem hi, q⟩)))))
    ·exact .inr ⟨q, (World.ownsRow.lt ho b (blk_iff.1 hb2)).2⟩
   ·rw [if_neg ij] at e
    have hb2 : blk R.rs[j].td b := by
     have : blk ((R.rs.set i r)[j]).td b := hb
     rw [e] at this
     exact this
    exact .inl (.inr (.inr (.inr (.inr (.inr ⟨_, List.getElem_mem hj2, hb2⟩)))))
 have ag := a1 (fun b => SS S w w1 b ∧ ¬ dz g R b ∧ ¬ dz g R1 b) (fun b q e => q.2.1 (.inr (.inr (.inr (.inr (.inr ⟨_, List.getElem_mem hi, e⟩)))))) (fun b q e => q.2.1 (.inr (.inr (.inr (.inl e)))))
 have both : ∀ b, b < w1.heap.size → SS S w w1 b ∧ ¬ dz g R b → SS S w w1 b ∧ ¬ dz g R b ∧ ¬ dz g R1 b := fun b hb q => ⟨q.1, q.2, fun e => by
  rcases mb b e with e | e
  ·exact q.2 e
  ·omega⟩
 have l1 := ((h1.ls.mono (Q := fun b => SS S w w1 b ∧ ¬ dz g R b) fun b _ q => ⟨.inl q.1, q.2⟩).mono both).agr ag
 have sz : w1.heap.size ≤ (w2.setCell ⟨g.w, 36 * i + 35, none⟩ y.v).heap.size := by simpa using hs2
 have fin : ∀ b, b < (w2.setCell ⟨g.w, 36 * i + 35, none⟩ y.v).heap.size → SS S w w1 b ∧ ¬ dz g R b ∧ ¬ dz g R1 b → SS S w (w2.setCell ⟨g.w, 36 * i + 35, none⟩ y.v) b ∧ ¬ dz g R1 b := fun b _ q => ⟨q.1.imp_right fun z => ⟨z.1, Nat.lt_of_lt_of_le z.2 sz⟩, q.2.2⟩
 have l3 := l1.mono fin
 have hl := h.ls.len
 have ne_old : ∀ j (q : j < R.rs.length) (q' : j < H.ws.length), i ≠ j → ∀ b, blk R.rs[j].td b → ¬ blk R.rs[i].td b := fun j q q' ij b hb hz => h1.mu.tdne i j hi q b ij hz hb
 have ne_y : ∀ j (q : j < R.rs.length) (q' : j < H.ws.length), i ≠ j → ∀ b, blk R.rs[j].td b → ¬ blk y b := fun j q q' ij b hb hz => by
  obtain ⟨cur, hc⟩ := blk_own (h1.mu.td j q q') hb
  have hlt := (Array.getElem?_eq_some_iff.1 hc).1
  exact ne_old j q q' ij b hb (hyb2 b hlt hz)
 refine ⟨⟨⟨by simp [hl], fun j q q' => ?_, l3.evl, l3.evw⟩, ⟨?_, ?_, ?_, ?_, fun j q q' => ?_, fun j q => ?_, fun j k q q' b jk hb => ?_⟩, fun b q => ?_, fun b q => ?_⟩, ?_, fun b q => ?_, by simp⟩
 ·have q2 : j < R.rs.length := by simpa using q
  have q3 : j < H.ws.length := qa65
  have k := l3.wk j q2 q3
  show WkA _ _ (R.rs.set i r)[j] (H.ws.set i _)[j]
  rw [at1 j q, List.getElem_set]
  by_cases ij : i = j
  ·subst ij
   rw [if_pos rfl, if_pos rfl]
   exact ⟨k.pg, k.bg, k.st⟩
  ·rw [if_neg ij, if_neg ij]
   exact k
 ·have hb := eH h1.mu.box (a1 (fun b => b = g.h) (fun b q => by subst q; exact fun z => (h1.mu.ne_td hi hi' z).2.2.1 rfl) (fun b q => by subst q; exact n3)) rfl
  show Bk _ g.h (hC g R1 H.tk) HTy
  have e : hC g R1 H.tk = hC g R H.tk := by unfold hC; simp [R1]
  rw [e]
  exact hb
 ·exact mem_agr h1.mu.mem (a1 (fun b => b = g.m ∨ b = g.l) (fun b q => by rcases q with rfl | rfl; exact fun z => (h1.mu.ne_td hi hi' z).1 rfl; exact fun z => (h1.mu.ne_td hi hi' z).2.1 rfl) (fun b q => by rcases q with rfl | rfl; exact n1; exact n2)) (.inl rfl) (.inr rfl)
 ·have hb := (eH h1.mu.row (Agr.grown (P := fun b => ¬ blk R.rs[i].td b) hg (fun b hp e => hp (blk_iff.2 e.symm))) (fun q => n5 i hi hi' _ q rfl)).setCell (36 * i + 35) y.v
  rw [wsC_td R.rs i y hi] at hb
  exact hb
 ·exact dO h1.mu.ev (a1 (fun b => blk R.ev b) (fun b hb z => (h1.mu.ne_td hi hi' z).2.2.2.2 b hb rfl) (fun b hb => n4 b hb)) (fun d hd => ⟨d, hd, rfl⟩)
 ·have q2 : j < R.rs.length := by simpa using q
  have q3 : j < H.ws.length := qa65
  show World.ownsRow _ 0 UTy 1 ((R.rs.set i r)[j]).td.v ((H.ws.set i _)[j]).told.length (((H.ws.set i _)[j]).told.map (.int .u64))
  rw [at1 j q, List.getElem_set]
  by_cases ij : i = j
  ·subst ij
   rw [if_pos rfl, if_pos rfl]
   have ho2 : (w2.setCell ⟨g.w, 36 * i + 35, none⟩ y.v).ownsRow 0 UTy 1 y.v (H.ws[i].told.length + 1) (H.ws[i].told.map (.int .u64) ++ [.int .u64 t]) := dO ho (Agr.cell (P := fun b => blk y b) hyw) (fun d hd => ⟨d, hd, rfl⟩)
   show World.ownsRow _ 0 UTy 1 y.v (H.ws[i].told ++ [t]).length ((H.ws[i].told ++ [t]).map (.int .u64))
   rw [List.length_append, List.length_singleton, List.map_append]
   exact ho2
  ·rw [if_neg ij, if_neg ij]
   exact dO (h1.mu.td j q2 q3) (a1 (fun b => blk R.rs[j].td b) (fun b hb => ne_old j q2 q3 ij b hb) (fun b hb => n5 j q2 q3 b hb)) (fun d hd => ⟨d, hd, rfl⟩)
 ·have q2 : j < R.rs.length := by simpa using q
  show ¬ blk ((R.rs.set i r)[j]).td g.l
  rw [at1 j q]
  by_cases ij : i = j
  ·rw [if_pos ij]; exact fun z => h1.mu.tdl i hi (hyb2 _ ltm.2 z)
  ·rw [if_neg ij]; exact h1.mu.tdl j q2
 ·have q2 : j < R.rs.length := by simpa using q
  have q3 : k < R.rs.length := qa65
  have q4 : j < H.ws.length := aj
  have q5 : k < H.ws.length := aj
  have hb' : blk ((R.rs.set i r)[j]).td b := hb
  show ¬ blk ((R.rs.set i r)[k]).td b
  rw [at1 j q] at hb'
  rw [at1 k q']
  by_cases ij : i = j
  ·rw [if_pos ij] at hb'
   have ik : i ≠ k := aj
   rw [if_neg ik]
   exact fun z => ne_y k q3 q5 ik b z hb'
  ·rw [if_neg ij] at hb'
   by_cases ik : i = k
   ·rw [if_pos ik]; exact ne_y j q2 q4 ij b hb'
   ·rw [if_neg ik]; exact h1.mu.tdne j k q2 q3 b jk hb'
 ·rcases mb b q with q | q
  ·exact .inl (h.sub b q)
  ·exact .inr ⟨by omega, by simpa using q.2⟩
 ·rcases q with q | q
  ·exact Nat.lt_of_lt_of_le (h1.lt b q) sz
  ·exact q.2
 ·exact ((Fr.below hb1 (M := dz g R)).trans (Fr.grown hg (M := dz g R) (fun b q => .inr (.inr (.inr (.inr (.inr ⟨_, List.getElem_mem hi, blk_iff.2 q⟩)))))) (fun b _ q => q)).trans (Fr.cell (M := dz g R) (.inr (.inr (.inr (.inl rfl))))) (fun b _ q => q)
 ·rcases mb b q with q | q
  ·exact .inl q
  ·exact .inr aj
theorem HP.tick (h : HA S w g c R H) (n : Nat) : HP S g c R w R { H with tk := n } (w.setCell ⟨g.h, 3, none⟩ (.int .i64 n)) := HP.of (h.tick n) (Fr.cell (.inl rfl)) (fun b q => .inl q) rfl
theorem mutB_setR {i : Nat} {r : WkR} (hi : i < R.rs.length) (hr : r.td = R.rs[i].td) (b : Nat) (q : dz g { R with rs := R.rs.set i r } b) : dz g R b ∨ w.heap.size ≤ b := .inl ((mutB_set i r hi hr b).1 q)
theorem HP.bg (h : HA S w g c R H) {i : Nat} (hi : i < R.rs.length) (hi' : i < H.ws.length) (n : Nat) :
  HP S g c R w { R with rs := R.rs.set i { R.rs[i] with bg := n } } { H with ws := H.ws.set i { H.ws[i] with bg := n } } (w.setCell ⟨g.w, 36 * i + 1, none⟩ (.int .i64 n)) := by
 have k := (h.ls.wk i hi hi').agr (w' := w.setCell ⟨g.w, 36 * i + 1, none⟩ (.int .i64 n)) (Agr.cell (fun q => q.2 (.inr (.inr (.inr (.inl rfl))))))
 have hrow := h.mu.row.setCell (36 * i + 1) (.int .i64 n)
 rw [wsC_bg R.rs i n hi] at hrow
 exact HP.of (h.wrow hi { R.rs[i] with bg := n } { H.ws[i] with bg := n } rfl (fun _ => rfl) (Agr.cell (fun q => q rfl)) hrow ⟨k.pg, rfl, k.st⟩) (Fr.cell (.inr (.inr (.inr (.inl rfl))))) (fun b q => mutB_setR (r := { R.rs[i] with bg := (n : Int) }) hi rfl b q) aF
theorem HP.st (h : HA S w g c R H) {i : Nat} (hi : i < R.rs.length) (hi' : i < H.ws.length) (s : Wk) (x : St) (A : aM (fun b => S b ∧ ¬ dz g R b) w s x) :
  HP S g c R w { R with rs := R.rs.set i { R.rs[i] with s := s } } { H with ws := H.ws.set i { H.ws[i] with st := x } } (w.setRow g.w (wsC (R.rs.set i { R.rs[i] with s := s }))) := by
 have k := (h.ls.wk i hi hi').agr (w' := w.setRow g.w (wsC (R.rs.set i { R.rs[i] with s := s }))) (Agr.row (fun q => q.2 (.inr (.inr (.inr (.inl rfl))))))
 exact HP.of (h.wrow hi { R.rs[i] with s := s } { H.ws[i] with st := x } rfl (fun _ => rfl) (Agr.row (fun q => q rfl)) (h.mu.row.setRow _) ⟨k.pg, k.bg, lies_agr A (Agr.row (fun q => q.2 (.inr (.inr (.inr (.inl rfl))))))⟩) (Fr.row (.inr (.inr (.inr (.inl rfl))))) (fun b q => mutB_setR (r := { R.rs[i] with s := s }) hi rfl b q) aF
theorem HP.memory (h : HA S w g c R H) {a : Acc} {L : List Int} (M : aC 0 w' g.m c a g.l g.cap L) (t : Me.Touch g.m g.l w w') : HP S g c R w R { H with a := a, L := L } w' :=
 HP.of (h.memory M t) (Fr.touch t (.inr (.inl rfl)) (.inr (.inr (.inl rfl)))) (fun b q => .inl q) rfl
end
end Go.Proofs.YtaiodbcnbcdokaaGreat.Ha
end
section
namespace Go.Proofs.YtaiodbcnbcdokaaGreat.Ha
open Go Go.RowKit Go.ChangeMaps Gro Own Wd Ap Go.Proofs.YtaiodbcnbcdokaaGreat.Pl Wo Me Shp Opn
section
variable {P : Program} {ops : Array Oper} {rest : List Oper} {o : Oper} {a : Act} {w : World} {Q : Exit → Act → World → Prop} {K : Act → World → Prop} {E : Prop}
theorem add_lit0 (g j : Nat) : (⟨g, 0, none⟩ : Addr).add j = ⟨g, j, none⟩ := by rw [Addr.add_lit, Nat.zero_add]
theorem step_append {t e : TypeId} {size bytes : Nat} (El : Elem P t e size bytes) (hgd : o.guard = none) (s x : Operand) (ho : o.op = .call { callee := .builtin .append, args := #[s, x], argTypes := #[t, t] })
  (base : Nat) (v : Value) (n : Nat) (xs : List Value) (hs : a.eval s = v) (hown : w.ownsRow base e size v n xs) (g m c : Nat) (news : List Value) (hx : a.eval x = .slice (some ⟨g, 0, none⟩) m c)
  (hl : news.length = m * size) (hnews : ∀ j, j < news.length → w.cell? ⟨g, j, none⟩ = news[j]?) (h1 : ∀ u ∈ news, u.oneCell' = true) (hn : n + m ≤ 1000000) (hbase : base ≤ w.heap.size)
  (h : ∀ v' w', w'.ownsRow base e size v' (n + m) (xs ++ news) → w.grownBy w' v.ownBlock → (v'.ownBlock = v.ownBlock ∨ v'.ownBlock = some w.heap.size) → K (a.put o.dst v') w') : if Region.wanted o (yielded ops a.tmps) = true then Oper.wp P o a w K Q else E := by
 rw [if_pos qa56]
 obtain ⟨i, z, hi, hz, hsz, hby, hzs⟩ := El.info
 obtain ⟨v', w', hr, h2, h3, _, h4⟩ := run_append_own_at (P := P) w base t o.type e i z size bytes El.under hi hz hsz hby hzs El.pos v n xs hown ⟨g, 0, none⟩ m c news hl (fun j u hu => by
  have hj : j < news.length := (List.getElem?_eq_some_iff.1 hu).1
  rw [add_lit0, hnews j hj, hu]) h1 qa4f (by
  have := El.small
  calc (n + m) * bytes ≤ 1000000 * 1024 := Nat.mul_le_mul hn this
   _ ≤ 140737488355328 := by decide) hbase
 unfold Oper.wp execOp
 simp only [ho, resolve, invoke, builtin, Sem.run_bind, Sem.run_pure, Result.andThen_ok, List.map_toArray, List.map_cons, List.map_nil, hs, hx, hr]
 exact h v' w' h2 h3 h4
end
theorem run_one_ev (e : Ev) (w : World) : (Instr.buildSlice 50 1 #[(0, .agg (ec e))]).run Tryz.prog w = .ok (.slice (some ⟨w.heap.size, 0, none⟩) 1 1) (w.alloc (.cells (ec e) ETy)) := ah
theorem infoEv : ∃ i, Tryz.prog.info? ETy = some i ∧ i.zero = some (.agg (ec evZ)) ∧ i.size = 20 ∧ i.bytes = 176 := by
 have h : (Tryz.prog.info? ETy).map (fun i => (i.zero, i.size, i.bytes)) = some (some (.agg (ec evZ)), 20, 176) := ah
 exact info_parts h
theorem elemEv : Elem Tryz.prog 50 ETy 20 176 := ⟨Tryz.underlying50, by
 obtain ⟨i, h1, h2, h3, h4⟩ := infoEv
 exact ⟨i, _, h1, h2, h3, h4, rfl⟩, by decide, by decide⟩
section
variable {ops : Array Oper} {o : Oper} {a : Act} {w : World} {Q : Exit → Act → World → Prop} {K : Act → World → Prop} {F : Prop}
theorem dA (hgd : o.guard = none) (x : Operand) (ho : o.op = .buildSlice 50 1 #[(0, x)]) (e : Ev) (hx : a.eval x = .agg (ec e))
  (h : K (a.put o.dst (.slice (some ⟨w.heap.size, 0, none⟩) 1 1)) (w.alloc (.cells (ec e) ETy))) : if Region.wanted o (yielded ops a.tmps) = true then Oper.wp Tryz.prog o a w K Q else F := by
 rw [if_pos qa56]
 unfold Oper.wp
 simp [execOp, ho, hx, run_one_ev, Result.andThen]
 exact h
end
theorem ec_one (e : Ev) : ∀ u ∈ (ec e).toList, u.oneCell' = true := fun u hu => by
 have h : (ec e).all (·.oneCell') = true := ah
 exact (Array.all_eq_true_iff_forall_mem.1 h) u (by simpa using hu)
end Go.Proofs.YtaiodbcnbcdokaaGreat.Ha
end
