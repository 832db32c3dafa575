/- Part Refs. -/
import Derived.Laws.Tables
import Derived.Test.YtaiodbcnbcdokaaGreatKMems
set_option linter.unusedVariables false
set_option linter.unusedSimpArgs false
set_option linter.unusedSectionVars false
set_option maxRecDepth 100000
set_option maxHeartbeats 16000000
namespace Go.Proofs.YtaiodbcnbcdokaaGreat.Sub
open Go Go.RowKit Gro
def gY (cur : Array Value) : Nat → List Value → Array Value
 | _, [] => cur
 | i, v :: r => gY (cur.setIfInBounds i v) (i + 1) r
theorem setRow_self {w : World} {g : Nat} {cur : Array Value} {t : TypeId} {fr : Nat × Nat} (hg : w.heap[g]? = some (.cells cur t fr)) : w.setRow g cur = w := by
 have hlt : g < w.heap.size := (Array.getElem?_eq_some_iff.1 hg).1
 have hv : w.heap[g] = .cells cur t fr := (Array.getElem?_eq_some_iff.1 hg).2
 unfold World.setRow
 cases w with
 | mk heap tape drawn os output =>
  congr 1
  apply Array.ext
  ·simp
  ·intro k h1 h2
   simp only [Array.getElem_modify]
   split
   ·rename_i hk; subst hk; simp at hv; simp [hv]
   ·rfl
section
variable {P : Program}
theorem iZ (g off : Nat) (t : TypeId) : ∀ (vs : List Value) (i : Nat) (cur : Array Value) (w : World), w.heap[g]? = some (.cells cur t (0, 0)) → off + i + vs.length ≤ cur.size → (∀ v ∈ vs, v.oneCell' = true) →
  (storeCells ⟨g, off, none⟩ vs i).run P w = .ok () (w.setRow g (gY cur (off + i) vs))
 | [], i, cur, w, hg, hl, _ => by
  simp only [storeCells, gY]
  rw [setRow_self hg]
  rfl
 | v :: rest, i, cur, w, hg, hl, h1 => by
  have hi : off + i < cur.size := by simp at hl; omega
  have hadd : (⟨g, off, none⟩ : Addr).add i = ⟨g, off + i, none⟩ := Addr.add_lit ..
  have hcell : w.cell? ⟨g, off + i, none⟩ = some cur[off + i] := by simp [World.cell?, hg, hi]
  have hfro : w.frozen? ⟨g, off + i, none⟩ = false := by simp [World.frozen?, hg]
  have hst : (store ((⟨g, off, none⟩ : Addr).add i) v).run P w = .ok () (w.setRow g (cur.setIfInBounds (off + i) v)) := by
   rw [hadd, run_store P w _ v _ (h1 v aF), hcell]
   simp [hfro, setCell_eq_setRow w g (off + i) cur t (0, 0) v hg]
  have ih := iZ g off t rest (i + 1) (cur.setIfInBounds (off + i) v) (w.setRow g (cur.setIfInBounds (off + i) v)) (setRow_heap w g cur _ t _ hg) (by simp at hl ⊢; omega) (fun x hx => h1 x (by simp [hx]))
  simp only [storeCells, Sem.run_bind, hst, Result.andThen_ok, ih, setRow_setRow, gY]
  rw [show off + (i + 1) = off + i + 1 by omega]
theorem iB (w : World) (g off : Nat) (t ty : TypeId) (old cells new : Array Value) (hg : w.heap[g]? = some (.cells old t (0, 0))) (hi : (P.info? ty).map (·.size) = some cells.size)
  (ho : off + cells.size ≤ old.size) (h1 : cells.all (·.oneCell') = true) (hn : gY old off cells.toList = new) :
  (storeVar ty ⟨g, off, none⟩ (.agg cells)).run P w = .ok () (w.setRow g new) := by
 have := iZ (P := P) g off t cells.toList 0 old w hg bq (fun v hv => (Array.all_eq_true_iff_forall_mem.1 h1) v (by simpa using hv))
 cases hq : P.info? ty with
 | none => simp [hq] at hi
 | some i =>
  have hs : cells.size = i.size := by simp [hq] at hi; omega
  rw [Nat.add_zero, hn] at this
  simp [storeVar, sizeOf, typeInfo, hq, Value.cells, hs, this]
theorem bQ {ops : Array Oper} {rest : List Oper} {o : Oper} {a : Act} {w : World} {Q : Exit → Act → World → Prop} (hgd : o.guard = none) (ty : TypeId) (x y : Operand) (ho : o.op = .store ty x y)
  (g off : Nat) (cells : Array Value) (hx : a.eval x = .pointer (some ⟨g, off, none⟩)) (hy : a.eval y = .agg cells)
  (t : TypeId) (old new : Array Value) (hg : w.heap[g]? = some (.cells old t (0, 0))) (hi : (P.info? ty).map (·.size) = some cells.size)
  (hold : off + cells.size ≤ old.size) (h1 : cells.all (·.oneCell') = true) (hn : gY old off cells.toList = new)
  (h : wpList P ops Q rest (a.put o.dst undef) (w.setRow g new)) : wpList P ops Q (o :: rest) a w :=
 wpList_plain hgd fun _ hK => by
  unfold Oper.wp execOp
  simp only [ho, hx, hy, Instr.storeAt, Instr.sureAddr, Sem.run_bind, Sem.run_pure, Result.andThen_ok, iB w g off t ty old cells new hg hi hold h1 hn]
  exact hK _ _ h
end
end Go.Proofs.YtaiodbcnbcdokaaGreat.Sub
namespace Go.Proofs.YtaiodbcnbcdokaaGreat.Me
open Go Go.RowKit Gro Own Wd Ap Go.Proofs.YtaiodbcnbcdokaaGreat.Pl
abbrev rc (c : Cfg) (a : Acc) (v : Sl) : Array Value := #[.int .i64 c.ww, .int .i64 c.sl, .int .i64 c.bl, .int .i64 c.wd, .int .i64 c.en, .int .i64 c.rk, .int .i64 c.bg, .int .u64 c.la, .slice v.ad v.len v.cap, .int .i64 a.kd, .int .i64 a.at_, .int .u64 a.x, .int .u64 a.y, .int .u64 a.old]
section
variable {base : Nat} {w w1 w' : World} {g gl cap : Nat} {c : Cfg} {a : Acc} {L : List Int}
theorem Touch.setRow (h : Touch g gl w w1) (cs : Array Value) : Touch g gl w (w1.setRow g cs) :=
 ⟨h.os, h.tape, h.output, by simpa using h.size, fun k hk h1 h2 => (setRow_other w1 g k cs h1).trans (h.block k hk h1 h2)⟩
end
end Go.Proofs.YtaiodbcnbcdokaaGreat.Me
namespace Go.Proofs.YtaiodbcnbcdokaaGreat.Me
open Go Go.RowKit Gro Own Wd Ap Go.Proofs.YtaiodbcnbcdokaaGreat.Pl
def ldV (L : List Int) (k : Int) : Int := if 0 ≤ k ∧ k < (L.length : Int) then L.getD k.toNat 0 else 0
def acc (L : List Int) (kd k x y : Int) : Acc := if 0 ≤ k ∧ k < (L.length : Int) then ⟨kd, k, x, y, L.getD k.toNat 0⟩ else a0
def stL (L : List Int) (k v : Int) : List Int := if 0 ≤ k ∧ k < (L.length : Int) then L.set k.toNat v else L
def csB (L : List Int) (k x : Int) : Bool := decide (0 ≤ k ∧ k < (L.length : Int)) && decide (L.getD k.toNat 0 = x)
def csL (L : List Int) (k x y : Int) : List Int := if csB L k x = true then L.set k.toNat y else L
def adL (L : List Int) (k x : Int) : List Int := if 0 ≤ k ∧ k < (L.length : Int) then L.set k.toNat (IntKind.u64.wrap (L.getD k.toNat 0 + x)) else L
def WR (L : List Int) : Prop := ∀ x ∈ L, 0 ≤ x ∧ x < 18446744073709551616
section
variable {L : List Int}
theorem stL_len (k v : Int) : (stL L k v).length = L.length := by unfold stL; split <;> simp
theorem csL_len (k x y : Int) : (csL L k x y).length = L.length := by unfold csL; split <;> simp
theorem wr_set (h : WR L) (i : Nat) {v : Int} (h0 : 0 ≤ v) (h1 : v < 18446744073709551616) : WR (L.set i v) := fun x hx => by
 rcases List.mem_or_eq_of_mem_set hx with hx | rfl
 ·exact h x hx
 ·exact ⟨h0, h1⟩
theorem stL_wr (h : WR L) (k : Int) {v : Int} (h0 : 0 ≤ v) (h1 : v < 18446744073709551616) : WR (stL L k v) := by unfold stL; split; exact wr_set h _ h0 h1; exact h
theorem csL_wr (h : WR L) (k x : Int) {y : Int} (h0 : 0 ≤ y) (h1 : y < 18446744073709551616) : WR (csL L k x y) := by unfold csL; split; exact wr_set h _ h0 h1; exact h
theorem wrap_rng (x : Int) : 0 ≤ IntKind.u64.wrap x ∧ IntKind.u64.wrap x < 18446744073709551616 := qa4u
theorem dP (h : WR L) (k : Int) : 0 ≤ ldV L k ∧ ldV L k < 18446744073709551616 := by
 unfold ldV
 split
 ·rename_i hk
  have hl : k.toNat < L.length := aj
  rw [List.getD_eq_getElem?_getD, List.getElem?_eq_getElem hl]
  exact h _ (List.getElem_mem hl)
 ·omega
theorem ldV_at {i : Nat} (hi : i < L.length) : ldV L (i : Int) = L[i] := by
 unfold ldV
 rw [if_pos ⟨by omega, by omega⟩]
 simp [hi]
theorem acc_at {i : Nat} (hi : i < L.length) (kd x y : Int) : acc L kd (i : Int) x y = ⟨kd, i, x, y, L[i]⟩ := by
 unfold acc
 rw [if_pos ⟨by omega, by omega⟩]
 simp [hi]
theorem stL_at {i : Nat} (hi : i < L.length) (v : Int) : stL L (i : Int) v = L.set i v := by
 unfold stL
 rw [if_pos ⟨by omega, by omega⟩]
 simp
theorem adL_at {i : Nat} (hi : i < L.length) (v : Int) : adL L (i : Int) v = L.set i (IntKind.u64.wrap (L[i] + v)) := by
 unfold adL
 rw [if_pos ⟨by omega, by omega⟩]
 simp [hi]
theorem csB_at {i : Nat} (hi : i < L.length) (x : Int) : csB L (i : Int) x = decide (L[i] = x) := by
 unfold csB
 have : (0 ≤ (i : Int) ∧ (i : Int) < (L.length : Int)) := ⟨by omega, by omega⟩
 simp [hi]
theorem ldV_out {k : Int} (h : ¬ (0 ≤ k ∧ k < (L.length : Int))) : ldV L k = 0 := if_neg h
theorem acc_out {k : Int} (h : ¬ (0 ≤ k ∧ k < (L.length : Int))) (kd x y : Int) : acc L kd k x y = a0 := if_neg h
theorem stL_out {k : Int} (h : ¬ (0 ≤ k ∧ k < (L.length : Int))) (v : Int) : stL L k v = L := if_neg h
theorem adL_out {k : Int} (h : ¬ (0 ≤ k ∧ k < (L.length : Int))) (v : Int) : adL L k v = L := if_neg h
theorem csB_out {k : Int} (h : ¬ (0 ≤ k ∧ k < (L.length : Int))) (v : Int) : csB L k v = false := by unfold csB; rw [decide_eq_false h]; rfl
theorem csL_yes {k x : Int} (h : csB L k x = true) (y : Int) : csL L k x y = L.set k.toNat y := if_pos h
theorem csL_no {k x : Int} (h : csB L k x = false) (y : Int) : csL L k x y = L := if_neg (by simp [h])
theorem adr_ways (L : List Int) (k : Int) : (∃ i : Nat, k = (i : Int) ∧ i < L.length) ∨ ¬ (0 ≤ k ∧ k < (L.length : Int)) := by
 by_cases h : 0 ≤ k ∧ k < (L.length : Int)
 ·exact .inl ⟨k.toNat, by omega, by omega⟩
 ·exact .inr h
end
section
variable {base : Nat} {w : World} {g gl cap : Nat} {c : Cfg} {a : Acc} {L : List Int}
theorem bF (M : aC base w g c a gl cap L) (hm : L.length ≤ 1000) (k : Int) : Calls Tryz.prog 180 #[.pointer (some ⟨g, 0, none⟩), .int .i64 k] w fun e w' => e = .returned (.int .u64 (ldV L k)) ∧ aC base w' g c (acc L 1 k 0 0) gl cap L ∧ Touch g gl w w' := by
 rcases adr_ways L k with ⟨i, rfl, hi⟩ | h
 ·rw [ldV_at hi, acc_at hi]; exact load_in M i hi hm
 ·rw [ldV_out h, acc_out h]; exact load_out M k h hm
theorem iA (M : aC base w g c a gl cap L) (hm : L.length ≤ 1000) (k v : Int) : Calls Tryz.prog 177 #[.pointer (some ⟨g, 0, none⟩), .int .i64 k, .int .u64 v] w fun e w' => e = .returned (.tuple #[]) ∧ aC base w' g c (acc L 2 k v 0) gl cap (stL L k v) ∧ Touch g gl w w' := by
 rcases adr_ways L k with ⟨i, rfl, hi⟩ | h
 ·rw [stL_at hi, acc_at hi]; exact store_in M i hi hm v
 ·rw [stL_out h, acc_out h]; exact store_out M k h hm v
theorem iw (M : aC base w g c a gl cap L) (hm : L.length ≤ 1000) (k x y : Int) : Calls Tryz.prog 185 #[.pointer (some ⟨g, 0, none⟩), .int .i64 k, .int .u64 x, .int .u64 y] w fun e w' => e = .returned (.bool (csB L k x)) ∧ aC base w' g c (acc L 3 k x y) gl cap (csL L k x y) ∧ Touch g gl w w' := by
 rcases adr_ways L k with ⟨i, rfl, hi⟩ | h
 ·by_cases hx : L[i] = x
  ·subst hx
   have hb : csB L (i : Int) L[i] = true := by rw [csB_at hi]; simp
   rw [csL_yes hb, acc_at hi, hb]
   exact cas_yes M i hi hm y
  ·have hb : csB L (i : Int) x = false := by rw [csB_at hi]; simp [hx]
   rw [csL_no hb, acc_at hi, hb]
   exact cas_no M i hi hm x y hx
 ·have hb := csB_out h x
  rw [csL_no hb, acc_out h, hb]
  exact cas_out M k h hm x y
theorem add_any (M : aC base w g c a gl cap L) (hm : L.length ≤ 1000) (k v : Int) : Calls Tryz.prog 217 #[.pointer (some ⟨g, 0, none⟩), .int .i64 k, .int .u64 v] w fun e w' => e = .returned (.int .u64 (ldV L k)) ∧ aC base w' g c (acc L 4 k v 0) gl cap (adL L k v) ∧ Touch g gl w w' := by
 rcases adr_ways L k with ⟨i, rfl, hi⟩ | h
 ·rw [ldV_at hi, adL_at hi, acc_at hi]; exact add_in M i hi hm v
 ·rw [ldV_out h, adL_out h, acc_out h]; exact add_out M k h hm v
end
end Go.Proofs.YtaiodbcnbcdokaaGreat.Me
