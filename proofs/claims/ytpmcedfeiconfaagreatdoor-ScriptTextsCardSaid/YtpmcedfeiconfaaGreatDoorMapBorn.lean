/- Maps as lists of pairs, with the stamps of their entries: 'm[k] = f(m[k])' looks the entry up and stores into it later. -/
import Derived.Test.YtpmcedfeiconfaaGreatDoorMapRaw
namespace Go.Proofs.YtpmcedfeiconfaaGreatDoor.Mr
open Go Go.ChangeMaps
set_option linter.unusedSimpArgs false
set_option linter.unusedSectionVars false
set_option linter.unusedVariables false
theorem born_at : ∀ (l : List MapEntry) (j : Nat) (st : Nat), (l.map (·.born)).Nodup → (l[j]?).map (·.born) = some st → l.findIdx? (fun e => ((e.born : Nat) : Int) == ((st : Nat) : Int)) = some j
  | [], j, st, _, h => by simp at h
  | a :: r, 0, st, _, h => by
    simp only [List.getElem?_cons_zero, Option.map_some, Option.some.injEq] at h
    rw [List.findIdx?_cons]
    simp [h]
  | a :: r, j + 1, st, hn, h => by
    simp only [List.getElem?_cons_succ] at h
    simp only [List.map_cons, List.nodup_cons] at hn
    have hne : a.born ≠ st := fun e => hn.1 (by
      obtain ⟨x, hx, hs⟩ := Option.map_eq_some_iff.1 h
      exact List.mem_map.2 ⟨x, List.mem_of_getElem? hx, hs.trans e.symm⟩)
    have hb : (((a.born : Nat) : Int) == ((st : Nat) : Int)) = false := by
      simp only [beq_eq_false_iff_ne, ne_eq, Int.natCast_inj]
      exact hne
    rw [List.findIdx?_cons, hb]
    simp [born_at r j st hn.2 h]
theorem born_arr (es : Array MapEntry) (f : MapEntry → Bool) : es.findIdx? f = es.toList.findIdx? f := by
  cases es
  simp
theorem last_set {α : Type} (f : α → α) (a : α) (l : List α) : (l ++ [a]).modify l.length f = l ++ [f a] := by
  induction l with
  | nil => rfl
  | cons b r ih => simp [List.modify_succ_cons, ih]
def Born (es : Array MapEntry) (clock : Nat) : Prop := (∀ x ∈ es.toList, x.born < clock) ∧ (es.toList.map (·.born)).Nodup
section
variable {κ : Type} [DecidableEq κ]
def MapB (w : World) (b : Nat) (val : κ → Value) (L : List (κ × Value)) : Prop := ∃ es clock, w.heap[b]? = some (.map es clock) ∧ es.toList.map kv = L.map (pr val) ∧ Born es clock
variable {P : Program} {w : World} {t kt et : TypeId} {val : κ → Value} {b : Nat} {L : List (κ × Value)}
theorem MapB.at (h : MapB w b val L) : MapAt w b val L := by
  obtain ⟨es, c, h1, h2, _⟩ := h
  exact ⟨es, c, h1, h2⟩
theorem MapB.of {w' : World} (h : MapB w b val L) (e : w'.heap[b]? = w.heap[b]?) : MapB w' b val L := by
  obtain ⟨es, c, h1, h2⟩ := h
  exact ⟨es, c, e.trans h1, h2⟩
theorem MapB.lt (h : MapB w b val L) : b < w.heap.size := by
  obtain ⟨es, c, h1, h2⟩ := h
  exact (Array.getElem?_eq_some_iff.1 h1).1
theorem MapB.new (w : World) : MapB (w.alloc (.map #[] 0)) w.heap.size val [] := ⟨#[], 0, heap_alloc_new w _, rfl, by simp, by simp⟩
theorem modify_key (es : Array MapEntry) (j : Nat) (hj : j < es.size) (key : Value) (hk : (es[j]?).map (·.key) = some key) : (es.modify j fun e => { e with key := key }) = es := by
  apply Array.ext_getElem?
  intro i
  rw [Array.getElem?_modify]
  by_cases h : j = i
  · subst h
    rw [if_pos rfl]
    rw [Array.getElem?_eq_getElem hj] at hk ⊢
    simp only [Option.map_some, Option.some.injEq] at hk ⊢
    rw [← hk]
  · rw [if_neg h]
theorem run_entry (K : Keys P kt val) (ht : P.underlying t = some (.map kt et)) {z : Value} (hz : ∀ u : World, (zeroValue et).run P u = .ok z u) (h : MapB w b val L) (k : κ) :
    ∃ (st : Nat) (es1 : Array MapEntry) (c1 : Nat), (Instr.mapEntry t (.map (some b)) (val k)).run P w = .ok (.tuple #[(look k L).getD z, goInt st]) (setBlock w b (.map es1 c1)) ∧
      ∀ (w2 : World) (v : Value), w2.heap[b]? = some (.map es1 c1) → ∃ es2 c2, (Instr.entryStore t (.map (some b)) (goInt st) v).run P w2 = .ok () (setBlock w2 b (.map es2 c2)) ∧ es2.toList.map kv = (upd k v L).map (pr val) ∧ Born es2 c2 := by
  obtain ⟨es, clock, hb, hL, hB1, hB2⟩ := h
  have h1 := K.find w k L es.toList hL
  have hlen : es.size = L.length := by have := congrArg List.length hL; simpa using this
  cases hi : idx k L 0 with
  | none =>
    rw [hi] at h1
    have hl := (idx_none hi).1
    refine ⟨clock, es.push ⟨val k, z, clock⟩, clock + 1, ?_, fun w2 v hw2 => ?_⟩
    · simp [Instr.mapEntry, run_underlying ht, MapKept.run_getObj_map hb, K.check w false k, h1, hz, MapKept.run_setObj_map _ hb, Result.andThen, setBlock, hl]
    · have hnd : ((es.push ⟨val k, z, clock⟩).toList.map (·.born)).Nodup := by
        simp only [Array.toList_push, List.map_append, List.map_cons, List.map_nil]
        refine List.nodup_append.2 ⟨hB2, by simp, fun a ha c hc e1 => ?_⟩
        obtain ⟨x, hx, rfl⟩ := List.mem_map.1 ha
        have := hB1 x hx
        simp only [List.mem_singleton] at hc
        omega
      have hidx : (es.push ⟨val k, z, clock⟩).findIdx? (fun e => ((e.born : Nat) : Int) == ((clock : Nat) : Int)) = some es.size := by
        rw [born_arr]
        exact born_at _ es.size clock hnd (by simp)
      refine ⟨(es.push ⟨val k, z, clock⟩).modify es.size fun e => { e with val := v }, clock + 1, ?_, ?_, ?_, ?_⟩
      · simp [Instr.entryStore, MapKept.run_getObj_map hw2, goInt, asInt, asIntOf, hidx, MapKept.run_setObj_map _ hw2, Result.andThen, setBlock]
      · rw [(idx_none hi).2.1 v, Array.toList_modify, Array.toList_push]
        have := last_set (fun e : MapEntry => { e with val := v }) ⟨val k, z, clock⟩ es.toList
        rw [Array.length_toList] at this
        rw [this, List.map_append, List.map_append, hL]
        rfl
      · intro x hx
        rw [Array.toList_modify, Array.toList_push] at hx
        have := last_set (fun e : MapEntry => { e with val := v }) ⟨val k, z, clock⟩ es.toList
        rw [Array.length_toList] at this
        rw [this] at hx
        rcases List.mem_append.1 hx with hx | hx
        · exact Nat.lt_succ_of_lt (hB1 x hx)
        · simp only [List.mem_singleton] at hx
          rw [hx]
          exact Nat.lt_succ_self _
      · rw [Array.toList_modify, Array.toList_push]
        have := last_set (fun e : MapEntry => { e with val := v }) ⟨val k, z, clock⟩ es.toList
        rw [Array.length_toList] at this
        rw [this]
        simpa using hnd
  | some p =>
    obtain ⟨j, x⟩ := p
    rw [hi] at h1
    obtain ⟨n, hn, hlt, hk, hlk, hu, _⟩ := idx_some hi
    obtain rfl : j = n := by omega
    have hjs : j < es.size := by omega
    have hkey : (es[j]?).map (·.key) = some (val k) := by
      have := congrArg (fun l : List (Value × Value) => (l[j]?).map (·.1)) hL
      simp only [List.getElem?_map, Option.map_map] at this
      have e2 : (L[j]?.map ((fun x : Value × Value => x.1) ∘ pr val)) = (L[j]?.map (·.1)).map val := by rw [Option.map_map]; rfl
      rw [e2, hk] at this
      have e3 : (es.toList[j]?.map ((fun x : Value × Value => x.1) ∘ kv)) = es[j]?.map (·.key) := by rw [Array.getElem?_toList]; rfl
      rw [← e3, this]; rfl
    have hst : (Instr.keyThatStays (((es[j]?).map (·.key)).getD (val k)) (val k)).run P w = .ok (val k) w := by
      rw [hkey]; simp [Instr.keyThatStays, K.same k]
    have hmk := modify_key es j hjs (val k) hkey
    refine ⟨es[j].born, es, clock, ?_, fun w2 v hw2 => ?_⟩
    · have e4 : (Option.map (fun x => ((MapEntry.born x : Nat) : Int)) es[j]?).getD 0 = (es[j].born : Int) := by rw [Array.getElem?_eq_getElem hjs]; rfl
      simp [Instr.mapEntry, run_underlying ht, MapKept.run_getObj_map hb, K.check w false k, h1, hst, hmk, MapKept.run_setObj_map _ hb, hlk, e4, Result.andThen, setBlock]
    · have hidx : es.findIdx? (fun e => ((e.born : Nat) : Int) == ((es[j].born : Nat) : Int)) = some j := by
        rw [born_arr]
        exact born_at _ j _ hB2 (by simp [hjs])
      have hbo : ((es.modify j fun e => { e with val := v }).toList.map (·.born)) = es.toList.map (·.born) := by
        rw [Array.toList_modify]
        apply List.ext_getElem?
        intro i
        simp only [List.getElem?_map, List.getElem?_modify]
        by_cases h : j = i
        · subst h
          cases es.toList[j]? <;> simp
        · cases es.toList[i]? <;> simp [h]
      refine ⟨es.modify j fun e => { e with val := v }, clock, ?_, ?_, ?_, ?_⟩
      · simp [Instr.entryStore, MapKept.run_getObj_map hw2, goInt, asInt, asIntOf, hidx, MapKept.run_setObj_map _ hw2, Result.andThen, setBlock]
      · rw [hu v, List.map_set, ← hL, Array.toList_modify]
        apply List.ext_getElem?
        intro i
        by_cases hij : i = j
        · subst hij
          have e5 : es.toList[i]? = some es[i] := by simp [hjs]
          rw [Array.getElem?_eq_getElem hjs] at hkey
          simp only [Option.map_some, Option.some.injEq] at hkey
          simp only [List.getElem?_map, List.getElem?_modify, List.getElem?_set, e5, Option.map_some, if_true, List.length_map, Array.length_toList, hjs, kv, pr, hkey]
          show some (es[i].key, v) = some (val k, v)
          rw [hkey]
        · simp only [List.getElem?_map, List.getElem?_modify, List.getElem?_set, if_neg (Ne.symm hij)]
          cases es.toList[i]? <;> simp
      · intro y hy
        have hm : y.born ∈ (es.modify j fun e => { e with val := v }).toList.map (·.born) := List.mem_map.2 ⟨y, hy, rfl⟩
        rw [hbo] at hm
        obtain ⟨y0, h0, h1⟩ := List.mem_map.1 hm
        rw [← h1]
        exact hB1 y0 h0
      · rw [hbo]
        exact hB2
end
end Go.Proofs.YtpmcedfeiconfaaGreatDoor.Mr
