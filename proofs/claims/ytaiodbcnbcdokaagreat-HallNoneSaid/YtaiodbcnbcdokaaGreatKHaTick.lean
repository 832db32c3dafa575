/- Part HaTick. -/
import Derived.Test.YtaiodbcnbcdokaaGreatKHaFin
set_option linter.unusedVariables false
set_option linter.unusedSimpArgs false
set_option linter.unusedSectionVars false
set_option maxRecDepth 100000
set_option maxHeartbeats 16000000
namespace Go.Proofs.YtaiodbcnbcdokaaGreat.Ha
open Go Go.RowKit Go.ChangeMaps Gro Own Wd Ap Go.Proofs.YtaiodbcnbcdokaaGreat.Pl Wo Me Shp Opn
abbrev oC (o : OpD) : Array Value := #[.int .i64 o.k, .int .u64 o.t, .int .u64 o.x, .int .i64 o.s, .bool o.u, .int .i64 o.b, .int .i64 o.n]
theorem tickF_set (ws : List WkD) (i : Nat) (hi : i < ws.length) (d : WkD) (hd : d.told = ws[i].told) (o : OpD) : fH (ws.set i d) o = fH ws o := by
 unfold fH
 rw [List.length_set, List.getElem?_set]
 by_cases e : i = o.b.toNat
 ·rw [if_pos e, if_pos hi, ← e, List.getElem?_eq_getElem hi]
  simp only [hd]
 ·rw [if_neg e]
theorem bdN {B : Nat} {a w : World} (h : Below B a w) (n : Nat) : Below B a (w.drewN n) := ⟨h.os, h.tape, h.output, h.size, h.block⟩
theorem hTicket {S : Nat → Prop} {w : World} {g : HG} {c : Cfg} {R : HR} {H : HD} (h : HA S w g c R H) (hn : R.rs.length ≤ 8) (ht : ∀ i (q : i < H.ws.length), H.ws[i].told.length ≤ 1000) (o : OpD) :
  Calls Tryz.prog 101 #[.pointer (some ⟨g.h, 0, none⟩), .agg (oC o)] w fun e w' => e = .returned (.int .u64 (fH H.ws o)) ∧ Below w.heap.size w w' := by
 have X0 := Bk.new w (oC o) 30
 have b0 : Below w.heap.size w (w.alloc (.cells (oC o) 30)) := (Below.refl _ _).alloc (Nat.le_refl _) _
 obtain ⟨w1, hw1⟩ : ∃ u, u = w.alloc (.cells (oC o) 30) := ⟨_, rfl⟩
 rw [← hw1] at X0 b0
 have h1 := h.keep b0
 obtain ⟨k, t, x, s, u, bb, n⟩ := o
 have x1 : w1.cell? ⟨w.heap.size, 1, none⟩ = some (.int .u64 t) := qa7c
 have x4 : w1.cell? ⟨w.heap.size, 4, none⟩ = some (.bool u) := qa7c
 have x5 : w1.cell? ⟨w.heap.size, 5, none⟩ = some (.int .i64 bb) := qa7c
 have x6 : w1.cell? ⟨w.heap.size, 6, none⟩ = some (.int .i64 n) := qa7c
 have jV := hFind h1 bb hn
 have HB := Lib.hid b0
 have H1 := Lib.hid h1
 have hl := h.ls.len
 have HTF : RowKit.Hid (∀ v, fH H.ws ⟨k, t, x, s, u, bb, n⟩ = v ↔ (if u = false then t else if bb < 0 ∨ (H.ws.length : Int) ≤ bb then 0 else match H.ws[bb.toNat]? with
  | some d => if n < 0 ∨ (d.told.length : Int) ≤ n then 0 else d.told.getD n.toNat 0
  | none => 0) = v) := Lib.hid (fun v => Iff.rfl)
 clear X0 b0 h1
 cases u
 ·have e : fH H.ws ⟨k, t, x, s, false, bb, n⟩ = t := (HTF.out _).2 (if_pos rfl)
  rw [e]
  clear e HTF
  go_enter Tryz.func101, Tryz.ntmps101
  go_upto_region 1 with fail
  rw [← hw1]
  clear hw1
  go_wp2
  go_ret
  exact ⟨rfl, HB.out⟩
 ·by_cases hk : 0 ≤ bb ∧ bb < (R.rs.length : Int)
  ·obtain ⟨i, rfl⟩ : ∃ i : Nat, bb = i := ⟨bb.toNat, by omega⟩
   have hi : i < R.rs.length := aj
   have hi' : i < H.ws.length := aj
   have ef : findV g R.rs.length (i : Int) = .pointer (some ⟨g.w, 36 * i, none⟩) := by unfold findV; rw [if_pos hk, Int.toNat_natCast]
   rw [ef] at jV
   clear ef
   have OT := H1.out.mu.td i hi hi'
   have HTG : RowKit.Hid (∀ v, fH H.ws ⟨k, t, x, s, true, i, n⟩ = v ↔ (if n < 0 ∨ (H.ws[i].told.length : Int) ≤ n then 0 else H.ws[i].told.getD n.toNat 0) = v) := Lib.hid (fun v => by
    rw [HTF.out v, if_neg aL, if_neg aj, Int.toNat_natCast, List.getElem?_eq_getElem hi'])
   have RD : Reads _ .u64 R.rs[i].td.v H.ws[i].told := bD.reads (t := 22) OT
   have htl : R.rs[i].td.len = H.ws[i].told.length := bI RD
   have x35 := (H1.out.mu.row.cells (36 * i + 35)).trans (jw R.rs i 35 hi aj)
   change _ = some (Value.slice R.rs[i].td.ad R.rs[i].td.len R.rs[i].td.cap) at x35
   rw [htl] at x35
   obtain ⟨told, htd⟩ : ∃ y, y = H.ws[i].told := ⟨_, rfl⟩
   obtain ⟨ta, hta⟩ : ∃ y, y = R.rs[i].td.ad := ⟨_, rfl⟩
   obtain ⟨tc, htc⟩ : ∃ y, y = R.rs[i].td.cap := ⟨_, rfl⟩
   have HRD := Lib.hid RD
   rw [← htd, ← hta, ← htc] at x35
   rw [← htd] at HTG HRD
   obtain ⟨q, hq⟩ : ∃ q, q = 36 * i := ⟨_, rfl⟩
   rw [← hq] at x35 jV
   have HFD := Lib.hid jV
   clear jV
   have HTA := Lib.hid hta
   have hlt : told.length ≤ 1000 := by rw [htd]; exact ht i hi'
   clear OT RD htl htc HTF hq hta htd hk
   by_cases h0 : n < 0
   ·have e : fH H.ws ⟨k, t, x, s, true, i, n⟩ = 0 := (HTG.out _).2 (if_pos (.inl h0))
    exact qa1r
   ·by_cases h2 : (told.length : Int) ≤ n
    ·have e : fH H.ws ⟨k, t, x, s, true, i, n⟩ = 0 := (HTG.out _).2 (if_pos (.inr h2))
     exact qa1r
    ·obtain ⟨j, rfl⟩ : ∃ j : Nat, n = j := ⟨n.toNat, by omega⟩
     have hj : j < told.length := aj
     have e : fH H.ws ⟨k, t, x, s, true, i, j⟩ = told[j] := (HTG.out _).2 (by rw [if_neg aj, Int.toNat_natCast, List.getD_eq_getElem?_getD, List.getElem?_eq_getElem hj]; rfl)
     rw [e]
     clear e
     obtain ⟨tb, off, h4, h5⟩ := Ap.reads_at HRD.out hj
     rw [← HTA.out] at h4
     subst h4
     obtain ⟨tv, htv⟩ : ∃ y, y = told[j] := ⟨_, rfl⟩
     rw [← htv] at h5 ⊢
     clear htv
     have hh : (0 : Int) ≤ (j : Int) := aj
     go_enter Tryz.func101, Tryz.ntmps101
     go_upto_region 1 with fail
     rw [← hw1]
     clear hw1
     go_wp2_with (first | (go_at_call 60; refine HFD.out.mono ?_; rintro e w' ⟨rfl, rfl⟩))
     go_quiet (fail)
     go_wp2
     go_quiet (fail)
     go_wp2
     go_ret
     exact ⟨rfl, bdN (bdN HB.out _) _⟩
  ·have ef : findV g R.rs.length bb = .pointer none := by unfold findV; rw [if_neg hk]
   rw [ef] at jV
   have HFD := Lib.hid jV
   clear jV
   have e : fH H.ws ⟨k, t, x, s, true, bb, n⟩ = 0 := (HTF.out _).2 (by rw [if_neg aL, if_pos aj])
   rw [e]
   clear e ef HTF
   exact qa41
end Go.Proofs.YtaiodbcnbcdokaaGreat.Ha
