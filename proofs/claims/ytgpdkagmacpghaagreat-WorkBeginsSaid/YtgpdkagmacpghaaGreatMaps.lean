/- Maps as lists of pairs in the order of insertion: what a look-up, a store, a delete and len do to them, for keys of an integer kind and for structs of two integers. -/
import Derived.Maps.Keyed
import Derived.Laws.StructEq
import Derived.WalkKit
import Derived.Test.YtgpdkagmacpghaaGreatBk
import Derived.Outline
namespace Go.Proofs.YtgpdkagmacpghaaGreat.Mr
open Go Go.ChangeMaps
set_option linter.unusedSimpArgs false
set_option linter.unusedSectionVars false

def kv (e : MapEntry) : Value × Value := (e.key, e.val)

section
variable {κ : Type} [DecidableEq κ]
def pr (val : κ → Value) (p : κ × Value) : Value × Value := (val p.1, p.2)
def idx (k : κ) : List (κ × Value) → Nat → Option (Nat × Value)
  | [], _ => none
  | p :: r, i => if k = p.1 then some (i, p.2) else idx k r (i + 1)
def look (k : κ) : List (κ × Value) → Option Value
  | [] => none
  | p :: r => if k = p.1 then some p.2 else look k r
def upd (k : κ) (v : Value) : List (κ × Value) → List (κ × Value)
  | [] => [(k, v)]
  | p :: r => if k = p.1 then (k, v) :: r else p :: upd k v r
def del (k : κ) : List (κ × Value) → List (κ × Value)
  | [] => []
  | p :: r => if k = p.1 then r else p :: del k r

theorem idx_none {k : κ} : ∀ {L : List (κ × Value)} {i : Nat}, idx k L i = none → look k L = none ∧ (∀ v, upd k v L = L ++ [(k, v)]) ∧ del k L = L
  | [], _, _ => ⟨rfl, fun _ => rfl, rfl⟩
  | p :: r, i, h => by
    unfold idx at h
    by_cases hk : k = p.1
    · rw [if_pos hk] at h; cases h
    · rw [if_neg hk] at h
      obtain ⟨h1, h2, h3⟩ := idx_none h
      exact ⟨by simp [look, hk, h1], fun v => by simp [upd, hk, h2], by simp [del, hk, h3]⟩
theorem idx_some {k : κ} : ∀ {L : List (κ × Value)} {i j : Nat} {x : Value}, idx k L i = some (j, x) → ∃ n, j = i + n ∧ n < L.length ∧ L[n]?.map (·.1) = some k ∧ look k L = some x ∧ (∀ v, upd k v L = L.set n (k, v)) ∧ del k L = L.eraseIdx n
  | [], _, _, _, h => by cases h
  | p :: r, i, j, x, h => by
    unfold idx at h
    by_cases hk : k = p.1
    · rw [if_pos hk] at h
      cases h
      exact ⟨0, rfl, by simp, by simp [hk], by simp [look, hk], fun v => by simp [upd, hk], by simp [del, hk]⟩
    · rw [if_neg hk] at h
      obtain ⟨n, h0, h1, h2, h3, h4, h5⟩ := idx_some h
      exact ⟨n + 1, by omega, by simp; omega, by simpa using h2, by simp [look, hk, h3], fun v => by simp [upd, hk, h4], by simp [del, hk, h5]⟩
theorem idx_look (k : κ) (L : List (κ × Value)) (i : Nat) : (idx k L i).map (·.2) = look k L := by
  cases h : idx k L i with
  | none => rw [(idx_none h).1]; rfl
  | some p => obtain ⟨_, _, _, _, h1, _⟩ := idx_some (x := p.2) (j := p.1) h; rw [h1]; rfl

structure Keys (P : Program) (kt : TypeId) (val : κ → Value) : Prop where
  find : ∀ (w : World) (k : κ) (L : List (κ × Value)) (es : List MapEntry), es.map kv = L.map (pr val) → (Instr.findKey kt (val k) es).run P w = .ok (idx k L 0) w
  check : ∀ (w : World) (b : Bool) (k : κ), (Instr.checkKey b 10000 kt (val k)).run P w = .ok () w
  same : ∀ k : κ, Instr.sameBits 10000 (val k) (val k) = true

def MapAt (w : World) (b : Nat) (val : κ → Value) (L : List (κ × Value)) : Prop := ∃ es clock, w.heap[b]? = some (.map es clock) ∧ es.toList.map kv = L.map (pr val)

variable {P : Program} {w : World} {t kt et : TypeId} {val : κ → Value} {b : Nat} {L : List (κ × Value)}

theorem run_look (K : Keys P kt val) (ht : P.underlying t = some (.map kt et)) {z : Value} (hz : (zeroValue et).run P w = .ok z w) (h : MapAt w b val L) (k : κ) (c : Bool) :
    (Instr.lookup t (.map (some b)) (val k) c).run P w = .ok (if c then .tuple #[(look k L).getD z, .bool (look k L).isSome] else (look k L).getD z) w := by
  obtain ⟨es, clock, hb, hL⟩ := h
  have h1 := K.find w k L es.toList hL
  have h2 := idx_look k L 0
  cases hi : idx k L 0 with
  | none =>
    rw [hi] at h1 h2
    cases c <;> simp [Instr.lookup, run_underlying ht, MapKept.run_getObj_map hb, K.check w _ k, h1, hz, Result.andThen, ← h2]
  | some p =>
    rw [hi] at h1 h2
    cases c <;> simp [Instr.lookup, run_underlying ht, MapKept.run_getObj_map hb, K.check w _ k, h1, hz, Result.andThen, ← h2]
theorem run_look_nil (K : Keys P kt val) (ht : P.underlying t = some (.map kt et)) {z : Value} (hz : (zeroValue et).run P w = .ok z w) (k : κ) (c : Bool) :
    (Instr.lookup t (.map none) (val k) c).run P w = .ok (if c then .tuple #[z, .bool false] else z) w := by
  have h1 := K.find w k [] [] rfl
  cases c <;> simp [Instr.lookup, run_underlying ht, K.check w _ k, h1, hz, Result.andThen, idx]

theorem map_modify (es : Array MapEntry) (i : Nat) (hi : i < es.size) (key val : Value) : (es.modify i fun e => { e with key := key, val := val }).toList.map kv = (es.toList.map kv).set i (key, val) := by
  rw [Array.toList_modify]
  apply List.ext_getElem?
  intro n
  by_cases hn : n = i
  · subst hn
    simp [List.getElem?_set, List.getElem?_modify, hi, kv]
  · simp [List.getElem?_set, List.getElem?_modify, Ne.symm hn, kv]

theorem run_upd (K : Keys P kt val) (ht : P.underlying t = some (.map kt et)) (h : MapAt w b val L) (k : κ) (v : Value) :
    ∃ es' clock', (Instr.mapUpdate t (.map (some b)) (val k) v).run P w = .ok () (setBlock w b (.map es' clock')) ∧ es'.toList.map kv = (upd k v L).map (pr val) := by
  obtain ⟨es, clock, hb, hL⟩ := h
  have h1 := K.find w k L es.toList hL
  have hlen : es.size = L.length := by have := congrArg List.length hL; simpa using this
  cases hi : idx k L 0 with
  | none =>
    rw [hi] at h1
    refine ⟨es.push ⟨val k, v, clock⟩, clock + 1, ?_, ?_⟩
    · simp [Instr.mapUpdate, run_underlying ht, MapKept.run_getObj_map hb, K.check w false k, h1, MapKept.run_setObj_map _ hb, Result.andThen, setBlock]
    · rw [(idx_none hi).2.1 v, Array.toList_push, List.map_append, List.map_append, hL]; rfl
  | some p =>
    obtain ⟨j, x⟩ := p
    rw [hi] at h1
    obtain ⟨n, hn, hlt, hk, _, hu, _⟩ := idx_some hi
    obtain rfl : j = n := by omega
    have hjs : j < es.size := by omega
    have hkey : (es[j]?).map (·.key) = some (val k) := by
      have := congrArg (fun l : List (Value × Value) => (l[j]?).map (·.1)) hL
      simp only [List.getElem?_map, Option.map_map] at this
      have e2 : (L[j]?.map ((fun x : Value × Value => x.1) ∘ pr val)) = (L[j]?.map (·.1)).map val := by rw [Option.map_map]; rfl
      rw [e2, hk] at this
      have e3 : (es.toList[j]?.map ((fun x : Value × Value => x.1) ∘ kv)) = es[j]?.map (·.key) := by rw [Array.getElem?_toList]; rfl
      rw [← e3, this]; rfl
    have hst : (Instr.keyThatStays (((es[j]?).map (·.key)).getD (val k)) (val k)).run P w = .ok (val k) w := by
      rw [hkey]; simp [Instr.keyThatStays, K.same k]
    refine ⟨es.modify j fun e => { e with key := val k, val := v }, clock, ?_, ?_⟩
    · simp [Instr.mapUpdate, run_underlying ht, MapKept.run_getObj_map hb, K.check w false k, h1, hst, MapKept.run_setObj_map _ hb, Result.andThen, setBlock]
    · rw [hu v, map_modify es j hjs, hL, List.map_set]; rfl

theorem run_del (K : Keys P kt val) (ht : P.underlying t = some (.map kt et)) (h : MapAt w b val L) (k : κ) (ty : TypeId) :
    ∃ es' clock', (Builtin.delete_ #[t, kt] ty #[.map (some b), val k]).run P w = .ok (.tuple #[]) (setBlock w b (.map es' clock')) ∧ es'.toList.map kv = (del k L).map (pr val) := by
  obtain ⟨es, clock, hb, hL⟩ := h
  have h1 := K.find w k L es.toList hL
  have hlen : es.size = L.length := by have := congrArg List.length hL; simpa using this
  cases hi : idx k L 0 with
  | none =>
    rw [hi] at h1
    refine ⟨es, clock, ?_, ?_⟩
    · simp [Builtin.delete_, run_underlying ht, MapKept.run_getObj_map hb, K.check w _ k, h1, MapKept.run_setObj_map _ hb, Result.andThen, setBlock]
    · rw [(idx_none hi).2.2, hL]
  | some p =>
    obtain ⟨j, x⟩ := p
    rw [hi] at h1
    obtain ⟨n, hn, hlt, hk, _, _, hd⟩ := idx_some hi
    obtain rfl : j = n := by omega
    refine ⟨es.eraseIdxIfInBounds j, clock, ?_, ?_⟩
    · simp [Builtin.delete_, run_underlying ht, MapKept.run_getObj_map hb, K.check w _ k, h1, MapKept.run_setObj_map _ hb, Result.andThen, setBlock]
    · have e1 : (es.eraseIdxIfInBounds j).toList = es.toList.eraseIdx j := by
        have hlt' : j < es.size := by omega
        simp [Array.eraseIdxIfInBounds, hlt']
      rw [e1, hd, map_eraseIdx, map_eraseIdx, hL]
theorem run_del_nil (K : Keys P kt val) (ht : P.underlying t = some (.map kt et)) (k : κ) (ty : TypeId) :
    (Builtin.delete_ #[t, kt] ty #[.map none, val k]).run P w = .ok (.tuple #[]) w := by
  simp [Builtin.delete_, run_underlying ht, K.check w _ k, Result.andThen]
theorem run_len (ht : P.underlying t = some (.map kt et)) (h : MapAt w b val L) (ty : TypeId) : (Builtin.len_ #[t] ty #[.map (some b)]).run P w = .ok (.int .i64 L.length) w := by
  obtain ⟨es, clock, hb, hL⟩ := h
  have hlen : es.size = L.length := by have := congrArg List.length hL; simpa using this
  simp [Builtin.len_, run_underlying ht, MapKept.run_getObj_map hb, goInt, Result.andThen, hlen]
theorem run_len_nil (ht : P.underlying t = some (.map kt et)) (ty : TypeId) : (Builtin.len_ #[t] ty #[.map none]).run P w = .ok (.int .i64 0) w := by
  simp [Builtin.len_, run_underlying ht, goInt, Result.andThen]

theorem mapAt_set {es' : Array MapEntry} {c' : Nat} (h : MapAt w b val L) {L' : List (κ × Value)} (hL : es'.toList.map kv = L'.map (pr val)) : MapAt (setBlock w b (.map es' c')) b val L' := by
  obtain ⟨es, clock, hb, _⟩ := h
  exact ⟨es', c', heap_setBlock_same hb _, hL⟩
end

/-! keys of an integer kind -/
theorem findNow_int (q : IntKind) (k : Int) : ∀ (L : List (Int × Value)) (es : List MapEntry) (i : Nat), es.map kv = L.map (pr (Value.int q)) → Instr.findNow (.int q) (.int q k) es i = some (idx k L i)
  | [], [], _, _ => rfl
  | [], _ :: _, _, h => by simp at h
  | _ :: _, [], _, h => by simp at h
  | p :: r, e :: es, i, h => by
    simp only [List.map_cons, List.cons.injEq] at h
    obtain ⟨h1, h2⟩ := h
    simp only [kv, pr, Prod.mk.injEq] at h1
    unfold Instr.findNow idx
    rw [h1.1, h1.2]
    by_cases hk : k = p.1
    · simp [Instr.sameNow, hk]
    · have hb : (k == p.1) = false := by simpa using hk
      simp only [Instr.sameNow, if_true, hb, if_neg hk]
      exact findNow_int q k r es (i + 1) h2
theorem int_keys {P : Program} {kt : TypeId} {q : IntKind} (hk : P.underlying kt = some (.int q)) : Keys P kt (Value.int q) where
  find w k L es h := by simp [Instr.findKey, run_underlying hk, findNow_int q k L es 0 h]
  check w b k := MapKept.run_checkKey hk (by simp [MapKept.IsKey]) b 9999
  same k := by simp [Instr.sameBits]

/-! keys that are structs of two integers -/
def pairV (p : Int × Int) : Value := .agg #[.int .i64 p.1, .int .i64 p.2]
theorem findAsking_pair {P : Program} {kt : TypeId} (w : World) (he : ∀ a b c d : Int, ∀ w : World, (Op.equal kt (pairV (a, b)) (pairV (c, d))).run P w = .ok (a == c && b == d) w) (k : Int × Int) :
    ∀ (L : List ((Int × Int) × Value)) (es : List MapEntry) (i : Nat), es.map kv = L.map (pr pairV) → (Instr.findAsking kt (pairV k) es i).run P w = .ok (idx k L i) w
  | [], [], _, _ => by simp [Instr.findAsking, idx]
  | [], _ :: _, _, h => by simp at h
  | _ :: _, [], _, h => by simp at h
  | p :: r, e :: es, i, h => by
    simp only [List.map_cons, List.cons.injEq] at h
    obtain ⟨h1, h2⟩ := h
    simp only [kv, pr, Prod.mk.injEq] at h1
    unfold Instr.findAsking idx
    rw [h1.1, h1.2]
    obtain ⟨k1, k2⟩ := k
    obtain ⟨⟨p1, p2⟩, pv⟩ := p
    have he' := he k1 k2 p1 p2 w
    by_cases hk : k1 = p1 ∧ k2 = p2
    · obtain ⟨rfl, rfl⟩ := hk
      have hb : (k1 == k1 && k2 == k2) = true := by simp
      rw [hb] at he'
      simp [he', Result.andThen]
    · have hk' : ¬ ((k1, k2) = (p1, p2)) := by simpa using hk
      have hb : (k1 == p1 && k2 == p2) = false := by
        cases hx : (k1 == p1 && k2 == p2)
        · rfl
        · simp at hx; exact absurd hx hk
      rw [hb] at he'
      simp [he', hk', Result.andThen, findAsking_pair w he (k1, k2) r es (i + 1) h2]
theorem pair_keys {P : Program} {kt : TypeId} {fs : Array Field} (hk : P.underlying kt = some (.struct fs))
    (he : ∀ a b c d : Int, ∀ w : World, (Op.equal kt (pairV (a, b)) (pairV (c, d))).run P w = .ok (a == c && b == d) w)
    (hc : ∀ (w : World) (b : Bool) (k : Int × Int), (Instr.checkKey b 10000 kt (pairV k)).run P w = .ok () w) : Keys P kt pairV where
  find w k L es h := by
    cases es with
    | nil =>
      cases L with
      | nil => simp [Instr.findKey, run_underlying hk, Instr.findNow, idx]
      | cons _ _ => simp at h
    | cons e es =>
      have h1 := findAsking_pair w he k L (e :: es) 0 h
      have h2 : Instr.findNow (.struct fs) (pairV k) (e :: es) 0 = none := by
        unfold Instr.findNow; simp [Instr.sameNow]
      simp [Instr.findKey, run_underlying hk, h2, h1]
  check := hc
  same k := by simp [Instr.sameBits, pairV]
end Go.Proofs.YtgpdkagmacpghaaGreat.Mr

/- Maps as lists of pairs, with the stamps of their entries: 'm[k] = f(m[k])' looks the entry up and stores into it later. -/
namespace Go.Proofs.YtgpdkagmacpghaaGreat.Mr
open Go Go.ChangeMaps
set_option linter.unusedSimpArgs false
set_option linter.unusedSectionVars false
set_option linter.unusedVariables false
theorem born_at : ∀ (l : List MapEntry) (j : Nat) (st : Nat), (l.map (·.born)).Nodup → (l[j]?).map (·.born) = some st → l.findIdx? (fun e => ((e.born : Nat) : Int) == ((st : Nat) : Int)) = some j
  | [], j, st, _, h => by simp at h
  | a :: r, 0, st, _, h => by
    simp only [List.getElem?_cons_zero, Option.map_some, Option.some.injEq] at h
    rw [List.findIdx?_cons]
    simp [h]
  | a :: r, j + 1, st, hn, h => by
    simp only [List.getElem?_cons_succ] at h
    simp only [List.map_cons, List.nodup_cons] at hn
    have hne : a.born ≠ st := fun e => hn.1 (by
      obtain ⟨x, hx, hs⟩ := Option.map_eq_some_iff.1 h
      exact List.mem_map.2 ⟨x, List.mem_of_getElem? hx, hs.trans e.symm⟩)
    have hb : (((a.born : Nat) : Int) == ((st : Nat) : Int)) = false := by
      simp only [beq_eq_false_iff_ne, ne_eq, Int.natCast_inj]
      exact hne
    rw [List.findIdx?_cons, hb]
    simp [born_at r j st hn.2 h]
theorem born_arr (es : Array MapEntry) (f : MapEntry → Bool) : es.findIdx? f = es.toList.findIdx? f := by
  cases es
  simp
theorem last_set {α : Type} (f : α → α) (a : α) (l : List α) : (l ++ [a]).modify l.length f = l ++ [f a] := by
  induction l with
  | nil => rfl
  | cons b r ih => simp [List.modify_succ_cons, ih]
def Born (es : Array MapEntry) (clock : Nat) : Prop := (∀ x ∈ es.toList, x.born < clock) ∧ (es.toList.map (·.born)).Nodup
section
variable {κ : Type} [DecidableEq κ]
def MapB (w : World) (b : Nat) (val : κ → Value) (L : List (κ × Value)) : Prop := ∃ es clock, w.heap[b]? = some (.map es clock) ∧ es.toList.map kv = L.map (pr val) ∧ Born es clock
variable {P : Program} {w : World} {t kt et : TypeId} {val : κ → Value} {b : Nat} {L : List (κ × Value)}
theorem MapB.at (h : MapB w b val L) : MapAt w b val L := by
  obtain ⟨es, c, h1, h2, _⟩ := h
  exact ⟨es, c, h1, h2⟩
theorem MapB.of {w' : World} (h : MapB w b val L) (e : w'.heap[b]? = w.heap[b]?) : MapB w' b val L := by
  obtain ⟨es, c, h1, h2⟩ := h
  exact ⟨es, c, e.trans h1, h2⟩
theorem MapB.lt (h : MapB w b val L) : b < w.heap.size := by
  obtain ⟨es, c, h1, h2⟩ := h
  exact (Array.getElem?_eq_some_iff.1 h1).1
theorem MapB.new (w : World) : MapB (w.alloc (.map #[] 0)) w.heap.size val [] := ⟨#[], 0, heap_alloc_new w _, rfl, by simp, by simp⟩
theorem modify_key (es : Array MapEntry) (j : Nat) (hj : j < es.size) (key : Value) (hk : (es[j]?).map (·.key) = some key) : (es.modify j fun e => { e with key := key }) = es := by
  apply Array.ext_getElem?
  intro i
  rw [Array.getElem?_modify]
  by_cases h : j = i
  · subst h
    rw [if_pos rfl]
    rw [Array.getElem?_eq_getElem hj] at hk ⊢
    simp only [Option.map_some, Option.some.injEq] at hk ⊢
    rw [← hk]
  · rw [if_neg h]
theorem run_entry (K : Keys P kt val) (ht : P.underlying t = some (.map kt et)) {z : Value} (hz : ∀ u : World, (zeroValue et).run P u = .ok z u) (h : MapB w b val L) (k : κ) :
    ∃ (st : Nat) (es1 : Array MapEntry) (c1 : Nat), (Instr.mapEntry t (.map (some b)) (val k)).run P w = .ok (.tuple #[(look k L).getD z, goInt st]) (setBlock w b (.map es1 c1)) ∧
      ∀ (w2 : World) (v : Value), w2.heap[b]? = some (.map es1 c1) → ∃ es2 c2, (Instr.entryStore t (.map (some b)) (goInt st) v).run P w2 = .ok () (setBlock w2 b (.map es2 c2)) ∧ es2.toList.map kv = (upd k v L).map (pr val) ∧ Born es2 c2 := by
  obtain ⟨es, clock, hb, hL, hB1, hB2⟩ := h
  have h1 := K.find w k L es.toList hL
  have hlen : es.size = L.length := by have := congrArg List.length hL; simpa using this
  cases hi : idx k L 0 with
  | none =>
    rw [hi] at h1
    have hl := (idx_none hi).1
    refine ⟨clock, es.push ⟨val k, z, clock⟩, clock + 1, ?_, fun w2 v hw2 => ?_⟩
    · simp [Instr.mapEntry, run_underlying ht, MapKept.run_getObj_map hb, K.check w false k, h1, hz, MapKept.run_setObj_map _ hb, Result.andThen, setBlock, hl]
    · have hnd : ((es.push ⟨val k, z, clock⟩).toList.map (·.born)).Nodup := by
        simp only [Array.toList_push, List.map_append, List.map_cons, List.map_nil]
        refine List.nodup_append.2 ⟨hB2, by simp, fun a ha c hc e1 => ?_⟩
        obtain ⟨x, hx, rfl⟩ := List.mem_map.1 ha
        have := hB1 x hx
        simp only [List.mem_singleton] at hc
        omega
      have hidx : (es.push ⟨val k, z, clock⟩).findIdx? (fun e => ((e.born : Nat) : Int) == ((clock : Nat) : Int)) = some es.size := by
        rw [born_arr]
        exact born_at _ es.size clock hnd (by simp)
      refine ⟨(es.push ⟨val k, z, clock⟩).modify es.size fun e => { e with val := v }, clock + 1, ?_, ?_, ?_, ?_⟩
      · simp [Instr.entryStore, MapKept.run_getObj_map hw2, goInt, asInt, asIntOf, hidx, MapKept.run_setObj_map _ hw2, Result.andThen, setBlock]
      · rw [(idx_none hi).2.1 v, Array.toList_modify, Array.toList_push]
        have := last_set (fun e : MapEntry => { e with val := v }) ⟨val k, z, clock⟩ es.toList
        rw [Array.length_toList] at this
        rw [this, List.map_append, List.map_append, hL]
        rfl
      · intro x hx
        rw [Array.toList_modify, Array.toList_push] at hx
        have := last_set (fun e : MapEntry => { e with val := v }) ⟨val k, z, clock⟩ es.toList
        rw [Array.length_toList] at this
        rw [this] at hx
        rcases List.mem_append.1 hx with hx | hx
        · exact Nat.lt_succ_of_lt (hB1 x hx)
        · simp only [List.mem_singleton] at hx
          rw [hx]
          exact Nat.lt_succ_self _
      · rw [Array.toList_modify, Array.toList_push]
        have := last_set (fun e : MapEntry => { e with val := v }) ⟨val k, z, clock⟩ es.toList
        rw [Array.length_toList] at this
        rw [this]
        simpa using hnd
  | some p =>
    obtain ⟨j, x⟩ := p
    rw [hi] at h1
    obtain ⟨n, hn, hlt, hk, hlk, hu, _⟩ := idx_some hi
    obtain rfl : j = n := by omega
    have hjs : j < es.size := by omega
    have hkey : (es[j]?).map (·.key) = some (val k) := by
      have := congrArg (fun l : List (Value × Value) => (l[j]?).map (·.1)) hL
      simp only [List.getElem?_map, Option.map_map] at this
      have e2 : (L[j]?.map ((fun x : Value × Value => x.1) ∘ pr val)) = (L[j]?.map (·.1)).map val := by rw [Option.map_map]; rfl
      rw [e2, hk] at this
      have e3 : (es.toList[j]?.map ((fun x : Value × Value => x.1) ∘ kv)) = es[j]?.map (·.key) := by rw [Array.getElem?_toList]; rfl
      rw [← e3, this]; rfl
    have hst : (Instr.keyThatStays (((es[j]?).map (·.key)).getD (val k)) (val k)).run P w = .ok (val k) w := by
      rw [hkey]; simp [Instr.keyThatStays, K.same k]
    have hmk := modify_key es j hjs (val k) hkey
    refine ⟨es[j].born, es, clock, ?_, fun w2 v hw2 => ?_⟩
    · have e4 : (Option.map (fun x => ((MapEntry.born x : Nat) : Int)) es[j]?).getD 0 = (es[j].born : Int) := by rw [Array.getElem?_eq_getElem hjs]; rfl
      simp [Instr.mapEntry, run_underlying ht, MapKept.run_getObj_map hb, K.check w false k, h1, hst, hmk, MapKept.run_setObj_map _ hb, hlk, e4, Result.andThen, setBlock]
    · have hidx : es.findIdx? (fun e => ((e.born : Nat) : Int) == ((es[j].born : Nat) : Int)) = some j := by
        rw [born_arr]
        exact born_at _ j _ hB2 (by simp [hjs])
      have hbo : ((es.modify j fun e => { e with val := v }).toList.map (·.born)) = es.toList.map (·.born) := by
        rw [Array.toList_modify]
        apply List.ext_getElem?
        intro i
        simp only [List.getElem?_map, List.getElem?_modify]
        by_cases h : j = i
        · subst h
          cases es.toList[j]? <;> simp
        · cases es.toList[i]? <;> simp [h]
      refine ⟨es.modify j fun e => { e with val := v }, clock, ?_, ?_, ?_, ?_⟩
      · simp [Instr.entryStore, MapKept.run_getObj_map hw2, goInt, asInt, asIntOf, hidx, MapKept.run_setObj_map _ hw2, Result.andThen, setBlock]
      · rw [hu v, List.map_set, ← hL, Array.toList_modify]
        apply List.ext_getElem?
        intro i
        by_cases hij : i = j
        · subst hij
          have e5 : es.toList[i]? = some es[i] := by simp [hjs]
          rw [Array.getElem?_eq_getElem hjs] at hkey
          simp only [Option.map_some, Option.some.injEq] at hkey
          simp only [List.getElem?_map, List.getElem?_modify, List.getElem?_set, e5, Option.map_some, if_true, List.length_map, Array.length_toList, hjs, kv, pr, hkey]
          show some (es[i].key, v) = some (val k, v)
          rw [hkey]
        · simp only [List.getElem?_map, List.getElem?_modify, List.getElem?_set, if_neg (Ne.symm hij)]
          cases es.toList[i]? <;> simp
      · intro y hy
        have hm : y.born ∈ (es.modify j fun e => { e with val := v }).toList.map (·.born) := List.mem_map.2 ⟨y, hy, rfl⟩
        rw [hbo] at hm
        obtain ⟨y0, h0, h1⟩ := List.mem_map.1 hm
        rw [← h1]
        exact hB1 y0 h0
      · rw [hbo]
        exact hB2
end
end Go.Proofs.YtgpdkagmacpghaaGreat.Mr

/- Operations on maps, in the form of the walk: a look-up, a store, a map made, and the two halves of 'm[k] = f(m[k])'. -/
namespace Go.Proofs.YtgpdkagmacpghaaGreat.Mr
open Go Go.ChangeMaps Go.RowKit
set_option linter.unusedSimpArgs false
set_option linter.unusedSectionVars false
set_option linter.unusedVariables false
/-- All blocks but one are as they were. -/
structure Only (b : Nat) (w w' : World) : Prop where
  os : w'.os = w.os
  tape : w'.tape = w.tape
  output : w'.output = w.output
  size : w'.heap.size = w.heap.size
  block : ∀ i, i ≠ b → w'.heap[i]? = w.heap[i]?
theorem Only.of_set {b : Nat} {w : World} {es : Array MapEntry} {c : Nat} (hb : w.heap[b]? = some (.map es c)) (o : Obj) : Only b w (setBlock w b o) :=
  ⟨rfl, rfl, rfl, by simp [setBlock], fun i hi => heap_setBlock_other hb o hi⟩
theorem Only.below {b B : Nat} {w w' : World} (h : Only b w w') (hB : B ≤ b) : Below B w w' := ⟨h.os, h.tape, h.output, by rw [h.size]; exact Nat.le_refl _, fun k hk => h.block k (by omega)⟩
theorem Only.bk {b g : Nat} {w w' : World} {cs : Array Value} {t : TypeId} (h : Only b w w') (X : Gro.Bk w g cs t) (hg : g ≠ b) : Gro.Bk w' g cs t := (h.block g hg).trans X
section
variable {κ : Type} [DecidableEq κ]
variable {P : Program} {ops : Array Oper} {rest : List Oper} {o : Oper} {a : Act} {w : World} {Q : Exit → Act → World → Prop} {t kt et : TypeId} {val : κ → Value} {b : Nat} {L : List (κ × Value)}
theorem wpList_look (hw : Region.wanted o (yielded ops a.tmps) = true) (m x : Operand) (ho : o.op = .lookup t m x false) (K : Keys P kt val) (ht : P.underlying t = some (.map kt et)) {z : Value} (hz : ∀ u : World, (zeroValue et).run P u = .ok z u)
    (b : Nat) (L : List (κ × Value)) (hm : a.eval m = .map (some b)) (k : κ) (hx : a.eval x = val k) (h : MapAt w b val L) (hn : wpList P ops Q rest (a.put o.dst ((look k L).getD z)) w) : wpList P ops Q (o :: rest) a w :=
  wpList_step fun Kc hK => by
    rw [if_pos hw]
    have hr := run_look K ht (hz w) h k false
    unfold Oper.wp
    simp [execOp, ho, hm, hx, hr, Result.andThen]
    exact hK _ _ hn
theorem wpList_upd (hw : Region.wanted o (yielded ops a.tmps) = true) (m x v : Operand) (ho : o.op = .mapUpdate t m x v) (K : Keys P kt val) (ht : P.underlying t = some (.map kt et))
    (b : Nat) (L : List (κ × Value)) (hm : a.eval m = .map (some b)) (k : κ) (hx : a.eval x = val k) (y : Value) (hv : a.eval v = y) (h : MapAt w b val L)
    (hn : ∀ w', MapAt w' b val (upd k y L) → Only b w w' → wpList P ops Q rest (a.put o.dst undef) w') : wpList P ops Q (o :: rest) a w :=
  wpList_step fun Kc hK => by
    rw [if_pos hw]
    obtain ⟨es', c', hr, hL⟩ := run_upd K ht h k y
    unfold Oper.wp
    simp [execOp, ho, hm, hx, hv, hr, Result.andThen]
    have h1 := mapAt_set (c' := c') h hL
    obtain ⟨es, clock, hb, _⟩ := h
    exact hK _ _ (hn _ h1 (Only.of_set hb _))
theorem wpList_entry (hgd : o.guard = none) (m x : Operand) (ho : o.op = .mapEntry t m x) (K : Keys P kt val) (ht : P.underlying t = some (.map kt et)) {z : Value} (hz : ∀ u : World, (zeroValue et).run P u = .ok z u)
    (b : Nat) (L : List (κ × Value)) (hm : a.eval m = .map (some b)) (k : κ) (hx : a.eval x = val k) (h : MapB w b val L)
    (hn : ∀ (st : Nat) w' es1 c1, Only b w w' → (∀ (w2 : World) (v : Value), w2.heap[b]? = some (.map es1 c1) → ∃ es2 c2, (Instr.entryStore t (.map (some b)) (goInt st) v).run P w2 = .ok () (setBlock w2 b (.map es2 c2)) ∧ es2.toList.map kv = (upd k v L).map (pr val) ∧ Born es2 c2) →
      w'.heap[b]? = some (.map es1 c1) → wpList P ops Q rest (a.put o.dst (.tuple #[(look k L).getD z, goInt st])) w') : wpList P ops Q (o :: rest) a w :=
  wpList_plain hgd fun Kc hK => by
    obtain ⟨st, es1, c1, hr, h2⟩ := run_entry K ht hz h k
    unfold Oper.wp
    simp [execOp, ho, hm, hx, hr, Result.andThen]
    obtain ⟨es, clock, hb, _⟩ := h
    exact hK _ _ (hn st _ es1 c1 (Only.of_set hb _) h2 (heap_setBlock_same hb _))
theorem wpList_entryStore (hgd : o.guard = none) (m s x : Operand) (ho : o.op = .entryStore t m s x) (b : Nat) (hm : a.eval m = .map (some b)) (st : Nat) (hs : a.eval s = goInt st) (v : Value) (hx : a.eval x = v) (es2 : Array MapEntry) (c2 : Nat)
    (hr : (Instr.entryStore t (.map (some b)) (goInt st) v).run P w = .ok () (setBlock w b (.map es2 c2))) (hn : wpList P ops Q rest (a.put o.dst undef) (setBlock w b (.map es2 c2))) : wpList P ops Q (o :: rest) a w :=
  wpList_plain hgd fun Kc hK => by
    unfold Oper.wp
    simp [execOp, ho, hm, hs, hx, hr, Result.andThen]
    exact hK _ _ hn
end
end Go.Proofs.YtgpdkagmacpghaaGreat.Mr
