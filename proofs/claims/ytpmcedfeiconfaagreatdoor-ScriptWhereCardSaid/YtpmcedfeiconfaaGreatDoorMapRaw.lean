/- Maps as lists of pairs in the order of insertion: what a look-up, a store, a delete and len do to them, for keys of an integer kind and for structs of two integers. -/
import Derived.Maps.Keyed
import Derived.Laws.StructEq
import Derived.WalkKit
namespace Go.Proofs.YtpmcedfeiconfaaGreatDoor.Mr
open Go Go.ChangeMaps
set_option linter.unusedSimpArgs false
set_option linter.unusedSectionVars false

def kv (e : MapEntry) : Value × Value := (e.key, e.val)

section
variable {κ : Type} [DecidableEq κ]
def pr (val : κ → Value) (p : κ × Value) : Value × Value := (val p.1, p.2)
def idx (k : κ) : List (κ × Value) → Nat → Option (Nat × Value)
  | [], _ => none
  | p :: r, i => if k = p.1 then some (i, p.2) else idx k r (i + 1)
def look (k : κ) : List (κ × Value) → Option Value
  | [] => none
  | p :: r => if k = p.1 then some p.2 else look k r
def upd (k : κ) (v : Value) : List (κ × Value) → List (κ × Value)
  | [] => [(k, v)]
  | p :: r => if k = p.1 then (k, v) :: r else p :: upd k v r
def del (k : κ) : List (κ × Value) → List (κ × Value)
  | [] => []
  | p :: r => if k = p.1 then r else p :: del k r

theorem idx_none {k : κ} : ∀ {L : List (κ × Value)} {i : Nat}, idx k L i = none → look k L = none ∧ (∀ v, upd k v L = L ++ [(k, v)]) ∧ del k L = L
  | [], _, _ => ⟨rfl, fun _ => rfl, rfl⟩
  | p :: r, i, h => by
    unfold idx at h
    by_cases hk : k = p.1
    · rw [if_pos hk] at h; cases h
    · rw [if_neg hk] at h
      obtain ⟨h1, h2, h3⟩ := idx_none h
      exact ⟨by simp [look, hk, h1], fun v => by simp [upd, hk, h2], by simp [del, hk, h3]⟩
theorem idx_some {k : κ} : ∀ {L : List (κ × Value)} {i j : Nat} {x : Value}, idx k L i = some (j, x) → ∃ n, j = i + n ∧ n < L.length ∧ L[n]?.map (·.1) = some k ∧ look k L = some x ∧ (∀ v, upd k v L = L.set n (k, v)) ∧ del k L = L.eraseIdx n
  | [], _, _, _, h => by cases h
  | p :: r, i, j, x, h => by
    unfold idx at h
    by_cases hk : k = p.1
    · rw [if_pos hk] at h
      cases h
      exact ⟨0, rfl, by simp, by simp [hk], by simp [look, hk], fun v => by simp [upd, hk], by simp [del, hk]⟩
    · rw [if_neg hk] at h
      obtain ⟨n, h0, h1, h2, h3, h4, h5⟩ := idx_some h
      exact ⟨n + 1, by omega, by simp; omega, by simpa using h2, by simp [look, hk, h3], fun v => by simp [upd, hk, h4], by simp [del, hk, h5]⟩
theorem idx_look (k : κ) (L : List (κ × Value)) (i : Nat) : (idx k L i).map (·.2) = look k L := by
  cases h : idx k L i with
  | none => rw [(idx_none h).1]; rfl
  | some p => obtain ⟨_, _, _, _, h1, _⟩ := idx_some (x := p.2) (j := p.1) h; rw [h1]; rfl

structure Keys (P : Program) (kt : TypeId) (val : κ → Value) : Prop where
  find : ∀ (w : World) (k : κ) (L : List (κ × Value)) (es : List MapEntry), es.map kv = L.map (pr val) → (Instr.findKey kt (val k) es).run P w = .ok (idx k L 0) w
  check : ∀ (w : World) (b : Bool) (k : κ), (Instr.checkKey b 10000 kt (val k)).run P w = .ok () w
  same : ∀ k : κ, Instr.sameBits 10000 (val k) (val k) = true

def MapAt (w : World) (b : Nat) (val : κ → Value) (L : List (κ × Value)) : Prop := ∃ es clock, w.heap[b]? = some (.map es clock) ∧ es.toList.map kv = L.map (pr val)

variable {P : Program} {w : World} {t kt et : TypeId} {val : κ → Value} {b : Nat} {L : List (κ × Value)}

theorem run_look (K : Keys P kt val) (ht : P.underlying t = some (.map kt et)) {z : Value} (hz : (zeroValue et).run P w = .ok z w) (h : MapAt w b val L) (k : κ) (c : Bool) :
    (Instr.lookup t (.map (some b)) (val k) c).run P w = .ok (if c then .tuple #[(look k L).getD z, .bool (look k L).isSome] else (look k L).getD z) w := by
  obtain ⟨es, clock, hb, hL⟩ := h
  have h1 := K.find w k L es.toList hL
  have h2 := idx_look k L 0
  cases hi : idx k L 0 with
  | none =>
    rw [hi] at h1 h2
    cases c <;> simp [Instr.lookup, run_underlying ht, MapKept.run_getObj_map hb, K.check w _ k, h1, hz, Result.andThen, ← h2]
  | some p =>
    rw [hi] at h1 h2
    cases c <;> simp [Instr.lookup, run_underlying ht, MapKept.run_getObj_map hb, K.check w _ k, h1, hz, Result.andThen, ← h2]
theorem run_look_nil (K : Keys P kt val) (ht : P.underlying t = some (.map kt et)) {z : Value} (hz : (zeroValue et).run P w = .ok z w) (k : κ) (c : Bool) :
    (Instr.lookup t (.map none) (val k) c).run P w = .ok (if c then .tuple #[z, .bool false] else z) w := by
  have h1 := K.find w k [] [] rfl
  cases c <;> simp [Instr.lookup, run_underlying ht, K.check w _ k, h1, hz, Result.andThen, idx]

theorem map_modify (es : Array MapEntry) (i : Nat) (hi : i < es.size) (key val : Value) : (es.modify i fun e => { e with key := key, val := val }).toList.map kv = (es.toList.map kv).set i (key, val) := by
  rw [Array.toList_modify]
  apply List.ext_getElem?
  intro n
  by_cases hn : n = i
  · subst hn
    simp [List.getElem?_set, List.getElem?_modify, hi, kv]
  · simp [List.getElem?_set, List.getElem?_modify, Ne.symm hn, kv]

theorem run_upd (K : Keys P kt val) (ht : P.underlying t = some (.map kt et)) (h : MapAt w b val L) (k : κ) (v : Value) :
    ∃ es' clock', (Instr.mapUpdate t (.map (some b)) (val k) v).run P w = .ok () (setBlock w b (.map es' clock')) ∧ es'.toList.map kv = (upd k v L).map (pr val) := by
  obtain ⟨es, clock, hb, hL⟩ := h
  have h1 := K.find w k L es.toList hL
  have hlen : es.size = L.length := by have := congrArg List.length hL; simpa using this
  cases hi : idx k L 0 with
  | none =>
    rw [hi] at h1
    refine ⟨es.push ⟨val k, v, clock⟩, clock + 1, ?_, ?_⟩
    · simp [Instr.mapUpdate, run_underlying ht, MapKept.run_getObj_map hb, K.check w false k, h1, MapKept.run_setObj_map _ hb, Result.andThen, setBlock]
    · rw [(idx_none hi).2.1 v, Array.toList_push, List.map_append, List.map_append, hL]; rfl
  | some p =>
    obtain ⟨j, x⟩ := p
    rw [hi] at h1
    obtain ⟨n, hn, hlt, hk, _, hu, _⟩ := idx_some hi
    obtain rfl : j = n := by omega
    have hjs : j < es.size := by omega
    have hkey : (es[j]?).map (·.key) = some (val k) := by
      have := congrArg (fun l : List (Value × Value) => (l[j]?).map (·.1)) hL
      simp only [List.getElem?_map, Option.map_map] at this
      have e2 : (L[j]?.map ((fun x : Value × Value => x.1) ∘ pr val)) = (L[j]?.map (·.1)).map val := by rw [Option.map_map]; rfl
      rw [e2, hk] at this
      have e3 : (es.toList[j]?.map ((fun x : Value × Value => x.1) ∘ kv)) = es[j]?.map (·.key) := by rw [Array.getElem?_toList]; rfl
      rw [← e3, this]; rfl
    have hst : (Instr.keyThatStays (((es[j]?).map (·.key)).getD (val k)) (val k)).run P w = .ok (val k) w := by
      rw [hkey]; simp [Instr.keyThatStays, K.same k]
    refine ⟨es.modify j fun e => { e with key := val k, val := v }, clock, ?_, ?_⟩
    · simp [Instr.mapUpdate, run_underlying ht, MapKept.run_getObj_map hb, K.check w false k, h1, hst, MapKept.run_setObj_map _ hb, Result.andThen, setBlock]
    · rw [hu v, map_modify es j hjs, hL, List.map_set]; rfl

theorem run_del (K : Keys P kt val) (ht : P.underlying t = some (.map kt et)) (h : MapAt w b val L) (k : κ) (ty : TypeId) :
    ∃ es' clock', (Builtin.delete_ #[t, kt] ty #[.map (some b), val k]).run P w = .ok (.tuple #[]) (setBlock w b (.map es' clock')) ∧ es'.toList.map kv = (del k L).map (pr val) := by
  obtain ⟨es, clock, hb, hL⟩ := h
  have h1 := K.find w k L es.toList hL
  have hlen : es.size = L.length := by have := congrArg List.length hL; simpa using this
  cases hi : idx k L 0 with
  | none =>
    rw [hi] at h1
    refine ⟨es, clock, ?_, ?_⟩
    · simp [Builtin.delete_, run_underlying ht, MapKept.run_getObj_map hb, K.check w _ k, h1, MapKept.run_setObj_map _ hb, Result.andThen, setBlock]
    · rw [(idx_none hi).2.2, hL]
  | some p =>
    obtain ⟨j, x⟩ := p
    rw [hi] at h1
    obtain ⟨n, hn, hlt, hk, _, _, hd⟩ := idx_some hi
    obtain rfl : j = n := by omega
    refine ⟨es.eraseIdxIfInBounds j, clock, ?_, ?_⟩
    · simp [Builtin.delete_, run_underlying ht, MapKept.run_getObj_map hb, K.check w _ k, h1, MapKept.run_setObj_map _ hb, Result.andThen, setBlock]
    · have e1 : (es.eraseIdxIfInBounds j).toList = es.toList.eraseIdx j := by
        have hlt' : j < es.size := by omega
        simp [Array.eraseIdxIfInBounds, hlt']
      rw [e1, hd, map_eraseIdx, map_eraseIdx, hL]
theorem run_del_nil (K : Keys P kt val) (ht : P.underlying t = some (.map kt et)) (k : κ) (ty : TypeId) :
    (Builtin.delete_ #[t, kt] ty #[.map none, val k]).run P w = .ok (.tuple #[]) w := by
  simp [Builtin.delete_, run_underlying ht, K.check w _ k, Result.andThen]
theorem run_len (ht : P.underlying t = some (.map kt et)) (h : MapAt w b val L) (ty : TypeId) : (Builtin.len_ #[t] ty #[.map (some b)]).run P w = .ok (.int .i64 L.length) w := by
  obtain ⟨es, clock, hb, hL⟩ := h
  have hlen : es.size = L.length := by have := congrArg List.length hL; simpa using this
  simp [Builtin.len_, run_underlying ht, MapKept.run_getObj_map hb, goInt, Result.andThen, hlen]
theorem run_len_nil (ht : P.underlying t = some (.map kt et)) (ty : TypeId) : (Builtin.len_ #[t] ty #[.map none]).run P w = .ok (.int .i64 0) w := by
  simp [Builtin.len_, run_underlying ht, goInt, Result.andThen]

theorem mapAt_set {es' : Array MapEntry} {c' : Nat} (h : MapAt w b val L) {L' : List (κ × Value)} (hL : es'.toList.map kv = L'.map (pr val)) : MapAt (setBlock w b (.map es' c')) b val L' := by
  obtain ⟨es, clock, hb, _⟩ := h
  exact ⟨es', c', heap_setBlock_same hb _, hL⟩
end

/-! keys of an integer kind -/
theorem findNow_int (q : IntKind) (k : Int) : ∀ (L : List (Int × Value)) (es : List MapEntry) (i : Nat), es.map kv = L.map (pr (Value.int q)) → Instr.findNow (.int q) (.int q k) es i = some (idx k L i)
  | [], [], _, _ => rfl
  | [], _ :: _, _, h => by simp at h
  | _ :: _, [], _, h => by simp at h
  | p :: r, e :: es, i, h => by
    simp only [List.map_cons, List.cons.injEq] at h
    obtain ⟨h1, h2⟩ := h
    simp only [kv, pr, Prod.mk.injEq] at h1
    unfold Instr.findNow idx
    rw [h1.1, h1.2]
    by_cases hk : k = p.1
    · simp [Instr.sameNow, hk]
    · have hb : (k == p.1) = false := by simpa using hk
      simp only [Instr.sameNow, if_true, hb, if_neg hk]
      exact findNow_int q k r es (i + 1) h2
theorem int_keys {P : Program} {kt : TypeId} {q : IntKind} (hk : P.underlying kt = some (.int q)) : Keys P kt (Value.int q) where
  find w k L es h := by simp [Instr.findKey, run_underlying hk, findNow_int q k L es 0 h]
  check w b k := MapKept.run_checkKey hk (by simp [MapKept.IsKey]) b 9999
  same k := by simp [Instr.sameBits]

/-! keys that are structs of two integers -/
def pairV (p : Int × Int) : Value := .agg #[.int .i64 p.1, .int .i64 p.2]
theorem findAsking_pair {P : Program} {kt : TypeId} (w : World) (he : ∀ a b c d : Int, ∀ w : World, (Op.equal kt (pairV (a, b)) (pairV (c, d))).run P w = .ok (a == c && b == d) w) (k : Int × Int) :
    ∀ (L : List ((Int × Int) × Value)) (es : List MapEntry) (i : Nat), es.map kv = L.map (pr pairV) → (Instr.findAsking kt (pairV k) es i).run P w = .ok (idx k L i) w
  | [], [], _, _ => by simp [Instr.findAsking, idx]
  | [], _ :: _, _, h => by simp at h
  | _ :: _, [], _, h => by simp at h
  | p :: r, e :: es, i, h => by
    simp only [List.map_cons, List.cons.injEq] at h
    obtain ⟨h1, h2⟩ := h
    simp only [kv, pr, Prod.mk.injEq] at h1
    unfold Instr.findAsking idx
    rw [h1.1, h1.2]
    obtain ⟨k1, k2⟩ := k
    obtain ⟨⟨p1, p2⟩, pv⟩ := p
    have he' := he k1 k2 p1 p2 w
    by_cases hk : k1 = p1 ∧ k2 = p2
    · obtain ⟨rfl, rfl⟩ := hk
      have hb : (k1 == k1 && k2 == k2) = true := by simp
      rw [hb] at he'
      simp [he', Result.andThen]
    · have hk' : ¬ ((k1, k2) = (p1, p2)) := by simpa using hk
      have hb : (k1 == p1 && k2 == p2) = false := by
        cases hx : (k1 == p1 && k2 == p2)
        · rfl
        · simp at hx; exact absurd hx hk
      rw [hb] at he'
      simp [he', hk', Result.andThen, findAsking_pair w he (k1, k2) r es (i + 1) h2]
theorem pair_keys {P : Program} {kt : TypeId} {fs : Array Field} (hk : P.underlying kt = some (.struct fs))
    (he : ∀ a b c d : Int, ∀ w : World, (Op.equal kt (pairV (a, b)) (pairV (c, d))).run P w = .ok (a == c && b == d) w)
    (hc : ∀ (w : World) (b : Bool) (k : Int × Int), (Instr.checkKey b 10000 kt (pairV k)).run P w = .ok () w) : Keys P kt pairV where
  find w k L es h := by
    cases es with
    | nil =>
      cases L with
      | nil => simp [Instr.findKey, run_underlying hk, Instr.findNow, idx]
      | cons _ _ => simp at h
    | cons e es =>
      have h1 := findAsking_pair w he k L (e :: es) 0 h
      have h2 : Instr.findNow (.struct fs) (pairV k) (e :: es) 0 = none := by
        unfold Instr.findNow; simp [Instr.sameNow]
      simp [Instr.findKey, run_underlying hk, h2, h1]
  check := hc
  same k := by simp [Instr.sameBits, pairV]
end Go.Proofs.YtpmcedfeiconfaaGreatDoor.Mr
