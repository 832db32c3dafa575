/- Part GuardSee0. -/
import Derived.Test.YtaiodbcnbcdokaaGreatKWorks
import Derived.Deep.MidRow
import Derived.Lib.SlicesCompact
set_option linter.unusedVariables false
set_option linter.unusedSimpArgs false
set_option linter.unusedSectionVars false
set_option maxRecDepth 100000
set_option maxHeartbeats 16000000
namespace Go.Proofs.YtaiodbcnbcdokaaGreat.Wo
open Go Go.RowKit Gro Own Wd Ap Go.Proofs.YtaiodbcnbcdokaaGreat.Pl
def WReads (w : World) (v : Value) (xs : List Wk) : Prop :=
 ∃ ad cap, v = .slice ad xs.length cap ∧ xs.length ≤ cap ∧ cap ≤ maxLen ∧ (xs = [] ∨ ∃ b off, ad = some ⟨b, off, none⟩ ∧ b < w.heap.size ∧ ∀ i (h : i < xs.length), w.rangeAt b (off + i * 33) (wc xs[i]).toList)
theorem WReads.keep {w w' : World} {v : Value} {xs : List Wk} (h : WReads w v xs) (hb : Below w.heap.size w w') : WReads w' v xs := by
 obtain ⟨ad, cap, rfl, h1, h2, h3⟩ := h
 refine ⟨ad, cap, rfl, h1, h2, h3.imp id ?_⟩
 rintro ⟨b, off, rfl, hb0, hc⟩
 exact ⟨b, off, rfl, Nat.lt_of_lt_of_le hb0 hb.size, fun i hi j v hv => (hb.cell (p := ⟨b, _, none⟩) hb0).trans (hc i hi j v hv)⟩
section
variable {P : Program} {ops : Array Oper} {rest : List Oper} {o : Oper} {a : Act} {w : World} {Q : Exit → Act → World → Prop}
theorem append_one {t e : TypeId} {bytes : Nat} {k : IntKind} (E : Elem P t e 1 bytes) (hgd : o.guard = none) (s x : Operand) (ho : o.op = .call { callee := .builtin .append, args := #[s, x], argTypes := #[t, t] })
  (base : Nat) (v : Value) (n : Nat) (L : List Int) (hs : a.eval s = v) (hown : w.ownsRow base e 1 v n (L.map (.int k))) (g0 cpx : Nat) (b : Int) (hx : a.eval x = .slice (some ⟨g0, 0, none⟩) 1 cpx) (hc : w.cell? ⟨g0, 0, none⟩ = some (.int k b))
  (hn : n + 1 ≤ 1000000) (hbase : base ≤ w.heap.size)
  (h : ∀ (y : Sl) w', w'.ownsRow base e 1 y.v (n + 1) ((L ++ [b]).map (.int k)) → Below base w w' → (∀ g cs t', t' ≠ e → Bk w g cs t' → Bk w' g cs t') → wpList P ops Q rest (a.put o.dst y.v) w') : wpList P ops Q (o :: rest) a w := by
 obtain ⟨i, z, hi, hz, hsz, hby, hzs⟩ := E.info
 refine wpList_append_own w hgd s x t ho base e i z 1 bytes E.under hi hz hsz hby hzs aL v n _ hs hown ⟨g0, 0, none⟩ 1 cpx [.int k b] hx aF (fun j u hu => ?_) (fun u hu => ?_) qa4f ?_ hbase (fun v' w' h2 h3 _ => ?_)
 ·have hj : j < 1 := by have := (List.getElem?_eq_some_iff.1 hu).1; simpa using this
  obtain rfl : j = 0 := aj
  simp only [List.getElem?_cons_zero, Option.some.injEq] at hu
  subst hu
  exact hc
 ·simp only [List.mem_singleton] at hu
  subst hu
  rfl
 ·have := E.small
  calc (n + 1) * bytes ≤ 1000000 * 1024 := Nat.mul_le_mul hn this
   _ ≤ 140737488355328 := aL
 ·obtain ⟨y, rfl⟩ := gI h2
  refine h y w' (by rw [List.map_append]; exact h2) (jg hown hbase h3) (fun g cs t' ht hg => ?_)
  refine (h3.block g hg.lt (fun e' => ?_)).trans hg
  rcases hown.2 with ⟨h0, _⟩ | ⟨g', cap, cur, h0, _, hh, _⟩
  ·rw [h0] at e'
   simp [Value.ownBlock] at e'
  ·rw [h0] at e'
   simp only [Value.ownBlock, Option.some.injEq] at e'
   subst e'
   have := hg.symm.trans hh
   simp only [Option.some.injEq, Obj.cells.injEq] at this
   exact ht this.2.1
end
end Go.Proofs.YtaiodbcnbcdokaaGreat.Wo
