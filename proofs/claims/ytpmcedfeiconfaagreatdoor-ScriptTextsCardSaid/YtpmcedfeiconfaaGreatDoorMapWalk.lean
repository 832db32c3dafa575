/- Operations on maps, in the form of the walk: a look-up, a store, a map made, and the two halves of 'm[k] = f(m[k])'. -/
import Derived.Test.YtpmcedfeiconfaaGreatDoorMapBorn
import Derived.Test.YtpmcedfeiconfaaGreatDoorBk
import Derived.WalkKit
import Derived.Outline
namespace Go.Proofs.YtpmcedfeiconfaaGreatDoor.Mr
open Go Go.ChangeMaps Go.RowKit
set_option linter.unusedSimpArgs false
set_option linter.unusedSectionVars false
set_option linter.unusedVariables false
/-- All blocks but one are as they were. -/
structure Only (b : Nat) (w w' : World) : Prop where
  os : w'.os = w.os
  tape : w'.tape = w.tape
  output : w'.output = w.output
  size : w'.heap.size = w.heap.size
  block : ∀ i, i ≠ b → w'.heap[i]? = w.heap[i]?
theorem Only.of_set {b : Nat} {w : World} {es : Array MapEntry} {c : Nat} (hb : w.heap[b]? = some (.map es c)) (o : Obj) : Only b w (setBlock w b o) :=
  ⟨rfl, rfl, rfl, by simp [setBlock], fun i hi => heap_setBlock_other hb o hi⟩
theorem Only.below {b B : Nat} {w w' : World} (h : Only b w w') (hB : B ≤ b) : Below B w w' := ⟨h.os, h.tape, h.output, by rw [h.size]; exact Nat.le_refl _, fun k hk => h.block k (by omega)⟩
theorem Only.bk {b g : Nat} {w w' : World} {cs : Array Value} {t : TypeId} (h : Only b w w') (X : Gro.Bk w g cs t) (hg : g ≠ b) : Gro.Bk w' g cs t := (h.block g hg).trans X
section
variable {κ : Type} [DecidableEq κ]
variable {P : Program} {ops : Array Oper} {rest : List Oper} {o : Oper} {a : Act} {w : World} {Q : Exit → Act → World → Prop} {t kt et : TypeId} {val : κ → Value} {b : Nat} {L : List (κ × Value)}
theorem wpList_look (hw : Region.wanted o (yielded ops a.tmps) = true) (m x : Operand) (ho : o.op = .lookup t m x false) (K : Keys P kt val) (ht : P.underlying t = some (.map kt et)) {z : Value} (hz : ∀ u : World, (zeroValue et).run P u = .ok z u)
    (b : Nat) (L : List (κ × Value)) (hm : a.eval m = .map (some b)) (k : κ) (hx : a.eval x = val k) (h : MapAt w b val L) (hn : wpList P ops Q rest (a.put o.dst ((look k L).getD z)) w) : wpList P ops Q (o :: rest) a w :=
  wpList_step fun Kc hK => by
    rw [if_pos hw]
    have hr := run_look K ht (hz w) h k false
    unfold Oper.wp
    simp [execOp, ho, hm, hx, hr, Result.andThen]
    exact hK _ _ hn
theorem wpList_upd (hw : Region.wanted o (yielded ops a.tmps) = true) (m x v : Operand) (ho : o.op = .mapUpdate t m x v) (K : Keys P kt val) (ht : P.underlying t = some (.map kt et))
    (b : Nat) (L : List (κ × Value)) (hm : a.eval m = .map (some b)) (k : κ) (hx : a.eval x = val k) (y : Value) (hv : a.eval v = y) (h : MapAt w b val L)
    (hn : ∀ w', MapAt w' b val (upd k y L) → Only b w w' → wpList P ops Q rest (a.put o.dst undef) w') : wpList P ops Q (o :: rest) a w :=
  wpList_step fun Kc hK => by
    rw [if_pos hw]
    obtain ⟨es', c', hr, hL⟩ := run_upd K ht h k y
    unfold Oper.wp
    simp [execOp, ho, hm, hx, hv, hr, Result.andThen]
    have h1 := mapAt_set (c' := c') h hL
    obtain ⟨es, clock, hb, _⟩ := h
    exact hK _ _ (hn _ h1 (Only.of_set hb _))
theorem wpList_entry (hgd : o.guard = none) (m x : Operand) (ho : o.op = .mapEntry t m x) (K : Keys P kt val) (ht : P.underlying t = some (.map kt et)) {z : Value} (hz : ∀ u : World, (zeroValue et).run P u = .ok z u)
    (b : Nat) (L : List (κ × Value)) (hm : a.eval m = .map (some b)) (k : κ) (hx : a.eval x = val k) (h : MapB w b val L)
    (hn : ∀ (st : Nat) w' es1 c1, Only b w w' → (∀ (w2 : World) (v : Value), w2.heap[b]? = some (.map es1 c1) → ∃ es2 c2, (Instr.entryStore t (.map (some b)) (goInt st) v).run P w2 = .ok () (setBlock w2 b (.map es2 c2)) ∧ es2.toList.map kv = (upd k v L).map (pr val) ∧ Born es2 c2) →
      w'.heap[b]? = some (.map es1 c1) → wpList P ops Q rest (a.put o.dst (.tuple #[(look k L).getD z, goInt st])) w') : wpList P ops Q (o :: rest) a w :=
  wpList_plain hgd fun Kc hK => by
    obtain ⟨st, es1, c1, hr, h2⟩ := run_entry K ht hz h k
    unfold Oper.wp
    simp [execOp, ho, hm, hx, hr, Result.andThen]
    obtain ⟨es, clock, hb, _⟩ := h
    exact hK _ _ (hn st _ es1 c1 (Only.of_set hb _) h2 (heap_setBlock_same hb _))
theorem wpList_entryStore (hgd : o.guard = none) (m s x : Operand) (ho : o.op = .entryStore t m s x) (b : Nat) (hm : a.eval m = .map (some b)) (st : Nat) (hs : a.eval s = goInt st) (v : Value) (hx : a.eval x = v) (es2 : Array MapEntry) (c2 : Nat)
    (hr : (Instr.entryStore t (.map (some b)) (goInt st) v).run P w = .ok () (setBlock w b (.map es2 c2))) (hn : wpList P ops Q rest (a.put o.dst undef) (setBlock w b (.map es2 c2))) : wpList P ops Q (o :: rest) a w :=
  wpList_plain hgd fun Kc hK => by
    unfold Oper.wp
    simp [execOp, ho, hm, hs, hx, hr, Result.andThen]
    exact hK _ _ hn
end
end Go.Proofs.YtpmcedfeiconfaaGreatDoor.Mr
