/- Part Maps. -/
import Derived.Maps.Keyed
import Derived.Laws.StructEq
import Derived.WalkKit
import Derived.Test.YtaiodbcnbcdokaaGreatKBk
import Derived.Outline
set_option linter.unusedVariables false
set_option linter.unusedSimpArgs false
set_option linter.unusedSectionVars false
set_option maxRecDepth 100000
set_option maxHeartbeats 16000000
namespace Go.Proofs.YtaiodbcnbcdokaaGreat.Mr
open Go Go.ChangeMaps
def kv (e : MapEntry) : Value × Value := (e.key, e.val)
section
variable {κ : Type} [DecidableEq κ]
def pr (val : κ → Value) (p : κ × Value) : Value × Value := (val p.1, p.2)
def idx (k : κ) : List (κ × Value) → Nat → Option (Nat × Value)
 | [], _ => none
 | p :: r, i => if k = p.1 then some (i, p.2) else idx k r (i + 1)
def look (k : κ) : List (κ × Value) → Option Value
 | [] => none
 | p :: r => if k = p.1 then some p.2 else look k r
def upd (k : κ) (v : Value) : List (κ × Value) → List (κ × Value)
 | [] => [(k, v)]
 | p :: r => if k = p.1 then (k, v) :: r else p :: upd k v r
def del (k : κ) : List (κ × Value) → List (κ × Value)
 | [] => []
 | p :: r => if k = p.1 then r else p :: del k r
theorem jc {k : κ} : ∀ {L : List (κ × Value)} {i : Nat}, idx k L i = none → look k L = none ∧ (∀ v, upd k v L = L ++ [(k, v)]) ∧ del k L = L
 | [], _, _ => ⟨rfl, fun _ => rfl, rfl⟩
 | p :: r, i, h => by
  unfold idx at h
  by_cases hk : k = p.1
  ·rw [if_pos hk] at h; cases h
  ·rw [if_neg hk] at h
   obtain ⟨h1, h2, h3⟩ := jc h
   exact ⟨by simp [look, hk, h1], fun v => by simp [upd, hk, h2], by simp [del, hk, h3]⟩
theorem idx_some {k : κ} : ∀ {L : List (κ × Value)} {i j : Nat} {x : Value}, idx k L i = some (j, x) → ∃ n, j = i + n ∧ n < L.length ∧ L[n]?.map (·.1) = some k ∧ look k L = some x ∧ (∀ v, upd k v L = L.set n (k, v)) ∧ del k L = L.eraseIdx n
 | [], _, _, _, h => by cases h
 | p :: r, i, j, x, h => by
  unfold idx at h
  by_cases hk : k = p.1
  ·rw [if_pos hk] at h
   cases h
   exact ⟨0, rfl, by simp, by simp [hk], by simp [look, hk], fun v => by simp [upd, hk], by simp [del, hk]⟩
  ·rw [if_neg hk] at h
   obtain ⟨n, h0, h1, h2, h3, h4, h5⟩ := idx_some h
   exact ⟨n + 1, by omega, by simp; omega, by simpa using h2, by simp [look, hk, h3], fun v => by simp [upd, hk, h4], by simp [del, hk, h5]⟩
theorem idx_look (k : κ) (L : List (κ × Value)) (i : Nat) : (idx k L i).map (·.2) = look k L := by
 cases h : idx k L i with
 | none => rw [(jc h).1]; rfl
 | some p => obtain ⟨_, _, _, _, h1, _⟩ := idx_some (x := p.2) (j := p.1) h; rw [h1]; rfl
structure Keys (P : Program) (kt : TypeId) (val : κ → Value) : Prop where
 find : ∀ (w : World) (k : κ) (L : List (κ × Value)) (es : List MapEntry), es.map kv = L.map (pr val) → (Instr.findKey kt (val k) es).run P w = .ok (idx k L 0) w
 check : ∀ (w : World) (b : Bool) (k : κ), (Instr.checkKey b 10000 kt (val k)).run P w = .ok () w
 same : ∀ k : κ, Instr.sameBits 10000 (val k) (val k) = true
def MapAt (w : World) (b : Nat) (val : κ → Value) (L : List (κ × Value)) : Prop := ∃ es clock, w.heap[b]? = some (.map es clock) ∧ es.toList.map kv = L.map (pr val)
variable {P : Program} {w : World} {t kt et : TypeId} {val : κ → Value} {b : Nat} {L : List (κ × Value)}
theorem run_look (K : Keys P kt val) (ht : P.underlying t = some (.map kt et)) {z : Value} (hz : (zeroValue et).run P w = .ok z w) (h : MapAt w b val L) (k : κ) (c : Bool) :
  (Instr.lookup t (.map (some b)) (val k) c).run P w = .ok (if c then .tuple #[(look k L).getD z, .bool (look k L).isSome] else (look k L).getD z) w := by
 obtain ⟨es, clock, hb, hL⟩ := h
 have h1 := K.find w k L es.toList hL
 have h2 := idx_look k L 0
 cases hi : idx k L 0 with
 | none =>
  rw [hi] at h1 h2
  cases c <;> simp [Instr.lookup, run_underlying ht, MapKept.run_getObj_map hb, K.check w _ k, h1, hz, Result.andThen, ← h2]
 | some p =>
  rw [hi] at h1 h2
  cases c <;> simp [Instr.lookup, run_underlying ht, MapKept.run_getObj_map hb, K.check w _ k, h1, hz, Result.andThen, ← h2]
theorem map_modify (es : Array MapEntry) (i : Nat) (hi : i < es.size) (key val : Value) : (es.modify i fun e => { e with key := key, val := val }).toList.map kv = (es.toList.map kv).set i (key, val) := by
 rw [Array.toList_modify]
 apply List.ext_getElem?
 intro n
 by_cases hn : n = i
 ·subst hn
  simp [List.getElem?_set, List.getElem?_modify, hi, kv]
 ·simp [List.getElem?_set, List.getElem?_modify, Ne.symm hn, kv]
theorem run_upd (K : Keys P kt val) (ht : P.underlying t = some (.map kt et)) (h : MapAt w b val L) (k : κ) (v : Value) :
  ∃ es' clock', (Instr.mapUpdate t (.map (some b)) (val k) v).run P w = .ok () (setBlock w b (.map es' clock')) ∧ es'.toList.map kv = (upd k v L).map (pr val) := by
 obtain ⟨es, clock, hb, hL⟩ := h
 have h1 := K.find w k L es.toList hL
 have hlen : es.size = L.length := by have := congrArg List.length hL; simpa using this
 cases hi : idx k L 0 with
 | none =>
  rw [hi] at h1
  refine ⟨es.push ⟨val k, v, clock⟩, clock + 1, ?_, ?_⟩
  ·exact qa1s
  ·rw [(jc hi).2.1 v, Array.toList_push, List.map_append, List.map_append, hL]; rfl
 | some p =>
  obtain ⟨j, x⟩ := p
  rw [hi] at h1
  obtain ⟨n, hn, hlt, hk, _, hu, _⟩ := idx_some hi
  obtain rfl : j = n := aj
  have hjs : j < es.size := aj
  have hkey : (es[j]?).map (·.key) = some (val k) := by
   have := congrArg (fun l : List (Value × Value) => (l[j]?).map (·.1)) hL
   simp only [List.getElem?_map, Option.map_map] at this
   have e2 : (L[j]?.map ((fun x : Value × Value => x.1) ∘ pr val)) = (L[j]?.map (·.1)).map val := by rw [Option.map_map]; rfl
   rw [e2, hk] at this
   have e3 : (es.toList[j]?.map ((fun x : Value × Value => x.1) ∘ kv)) = es[j]?.map (·.key) := by rw [Array.getElem?_toList]; rfl
   rw [← e3, this]; rfl
  have hst : (Instr.keyThatStays (((es[j]?).map (·.key)).getD (val k)) (val k)).run P w = .ok (val k) w := by
   rw [hkey]; simp [Instr.keyThatStays, K.same k]
  refine ⟨es.modify j fun e => { e with key := val k, val := v }, clock, ?_, ?_⟩
  ·simp [Instr.mapUpdate, run_underlying ht, MapKept.run_getObj_map hb, K.check w false k, h1, hst, MapKept.run_setObj_map _ hb, Result.andThen, setBlock]
  ·rw [hu v, map_modify es j hjs, hL, List.map_set]; rfl
theorem mapAt_set {es' : Array MapEntry} {c' : Nat} (h : MapAt w b val L) {L' : List (κ × Value)} (hL : es'.toList.map kv = L'.map (pr val)) : MapAt (setBlock w b (.map es' c')) b val L' := by
 obtain ⟨es, clock, hb, _⟩ := h
 exact ⟨es', c', heap_setBlock_same hb _, hL⟩
end
theorem findNow_int (q : IntKind) (k : Int) : ∀ (L : List (Int × Value)) (es : List MapEntry) (i : Nat), es.map kv = L.map (pr (Value.int q)) → Instr.findNow (.int q) (.int q k) es i = some (idx k L i)
 | [], [], _, _ => rfl
 | [], _ :: _, _, h => by simp at h
 | _ :: _, [], _, h => by simp at h
 | p :: r, e :: es, i, h => by
  simp only [List.map_cons, List.cons.injEq] at h
  obtain ⟨h1, h2⟩ := h
  simp only [kv, pr, Prod.mk.injEq] at h1
  unfold Instr.findNow idx
  rw [h1.1, h1.2]
  by_cases hk : k = p.1
  ·simp [Instr.sameNow, hk]
  ·have hb : (k == p.1) = false := by simpa using hk
   simp only [Instr.sameNow, if_true, hb, if_neg hk]
   exact findNow_int q k r es (i + 1) h2
theorem int_keys {P : Program} {kt : TypeId} {q : IntKind} (hk : P.underlying kt = some (.int q)) : Keys P kt (Value.int q) where
 find w k L es h := by simp [Instr.findKey, run_underlying hk, findNow_int q k L es 0 h]
 check w b k := MapKept.run_checkKey hk (by simp [MapKept.IsKey]) b 9999
 same k := by simp [Instr.sameBits]
end Go.Proofs.YtaiodbcnbcdokaaGreat.Mr
namespace Go.Proofs.YtaiodbcnbcdokaaGreat.Mr
open Go Go.ChangeMaps
def Born (es : Array MapEntry) (clock : Nat) : Prop := (∀ x ∈ es.toList, x.born < clock) ∧ (es.toList.map (·.born)).Nodup
section
variable {κ : Type} [DecidableEq κ]
def jU (w : World) (b : Nat) (val : κ → Value) (L : List (κ × Value)) : Prop := ∃ es clock, w.heap[b]? = some (.map es clock) ∧ es.toList.map kv = L.map (pr val) ∧ Born es clock
variable {P : Program} {w : World} {t kt et : TypeId} {val : κ → Value} {b : Nat} {L : List (κ × Value)}
theorem jU.at (h : jU w b val L) : MapAt w b val L := by
 obtain ⟨es, c, h1, h2, _⟩ := h
 exact ⟨es, c, h1, h2⟩
theorem jU.of {w' : World} (h : jU w b val L) (e : w'.heap[b]? = w.heap[b]?) : jU w' b val L := by
 obtain ⟨es, c, h1, h2⟩ := h
 exact ⟨es, c, e.trans h1, h2⟩
theorem jU.lt (h : jU w b val L) : b < w.heap.size := by
 obtain ⟨es, c, h1, h2⟩ := h
 exact (Array.getElem?_eq_some_iff.1 h1).1
theorem jU.new (w : World) : jU (w.alloc (.map #[] 0)) w.heap.size val [] := ⟨#[], 0, heap_alloc_new w _, rfl, by simp, by simp⟩
end
end Go.Proofs.YtaiodbcnbcdokaaGreat.Mr
namespace Go.Proofs.YtaiodbcnbcdokaaGreat.Mr
open Go Go.ChangeMaps Go.RowKit
structure Only (b : Nat) (w w' : World) : Prop where
 os : w'.os = w.os
 tape : w'.tape = w.tape
 output : w'.output = w.output
 size : w'.heap.size = w.heap.size
 block : ∀ i, i ≠ b → w'.heap[i]? = w.heap[i]?
theorem Only.of_set {b : Nat} {w : World} {es : Array MapEntry} {c : Nat} (hb : w.heap[b]? = some (.map es c)) (o : Obj) : Only b w (setBlock w b o) :=
 ⟨rfl, rfl, rfl, by simp [setBlock], fun i hi => heap_setBlock_other hb o hi⟩
theorem Only.below {b B : Nat} {w w' : World} (h : Only b w w') (hB : B ≤ b) : Below B w w' := ⟨h.os, h.tape, h.output, by rw [h.size]; exact Nat.le_refl _, fun k hk => h.block k aj⟩
theorem Only.bk {b g : Nat} {w w' : World} {cs : Array Value} {t : TypeId} (h : Only b w w') (X : Gro.Bk w g cs t) (hg : g ≠ b) : Gro.Bk w' g cs t := (h.block g hg).trans X
section
variable {κ : Type} [DecidableEq κ]
variable {P : Program} {ops : Array Oper} {rest : List Oper} {o : Oper} {a : Act} {w : World} {Q : Exit → Act → World → Prop} {t kt et : TypeId} {val : κ → Value} {b : Nat} {L : List (κ × Value)}
theorem wpList_upd (hw : Region.wanted o (yielded ops a.tmps) = true) (m x v : Operand) (ho : o.op = .mapUpdate t m x v) (K : Keys P kt val) (ht : P.underlying t = some (.map kt et))
  (b : Nat) (L : List (κ × Value)) (hm : a.eval m = .map (some b)) (k : κ) (hx : a.eval x = val k) (y : Value) (hv : a.eval v = y) (h : MapAt w b val L)
  (hn : ∀ w', MapAt w' b val (upd k y L) → Only b w w' → wpList P ops Q rest (a.put o.dst undef) w') : wpList P ops Q (o :: rest) a w :=
 wpList_step fun Kc hK => qa10
end
end Go.Proofs.YtaiodbcnbcdokaaGreat.Mr
