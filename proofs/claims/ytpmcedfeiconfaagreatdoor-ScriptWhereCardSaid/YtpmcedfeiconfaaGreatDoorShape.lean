/- Arguments opened by their shape: a type whose cells are integers, bools, strings and slices of such cells; what a value of it reads as, cell by cell. -/
import Derived.ChangeArms
import Derived.OpenShut
import Derived.Deep.Slices
import Derived.Below
import Derived.ProofKit
namespace Go.Proofs.YtpmcedfeiconfaaGreatDoor.Shp
open Go Go.ChangeShapes Go.WideShapes Go.Deep
set_option linter.unusedVariables false

inductive Shape where
  | int (k : IntKind)
  | bool
  | str
  | slice (es : List Shape)

mutual
def Shape.ok (W : World) : Shape → Value → Prop
  | .int k, v => ∃ n, v = .int k n ∧ (Lit.int k n).wf = true
  | .bool, v => ∃ b, v = .bool b
  | .str, v => ∃ s : ByteArray, v = .string s ∧ s.size ≤ maxLen
  | .slice es, v => ∃ ad n cap, v = .slice ad n cap ∧ n ≤ cap ∧ cap ≤ maxLen ∧ (n = 0 ∨ ∃ b off, ad = some ⟨b, off, none⟩ ∧ (es ≠ [] → b < W.heap.size) ∧ ∀ i, i < n → Shape.oks W es b (off + i * es.length))
def Shape.oks (W : World) : List Shape → Nat → Nat → Prop
  | [], _, _ => True
  | s :: r, b, o => (∃ v, W.cell? ⟨b, o, none⟩ = some v ∧ Shape.ok W s v) ∧ Shape.oks W r b (o + 1)
end
def Shape.okl (W : World) : List Shape → List Value → Prop
  | [], [] => True
  | s :: r, v :: vs => s.ok W v ∧ Shape.okl W r vs
  | _, _ => False

/-- The cells of a type, in order; none where a type is met that has no such shape. -/
def shapes (P : Program) : Nat → TypeId → Option (List Shape)
  | 0, _ => none
  | n + 1, t => match P.underlying t with
    | some .bool => some [.bool]
    | some (.int k) => some [.int k]
    | some .string => some [.str]
    | some (.slice e) => match shapes P n e with
      | some es => if es.length = P.cellsOf e ∧ es ≠ [] then some [.slice es] else none
      | none => none
    | some (.struct fs) => fs.toList.foldl (fun acc f => match acc, shapes P n f.type with
        | some a, some l => if f.offset = a.length ∧ l.length = P.cellsOf f.type then some (a ++ l) else none
        | _, _ => none) (some []) 
    | some (.array m e) => match shapes P n e with
      | some l => if l.length = P.cellsOf e then some (List.replicate m l).flatten else none
      | none => none
    | _ => none

theorem okl_append {W : World} : ∀ {a b : List Shape} {xs ys : List Value}, Shape.okl W a xs → Shape.okl W b ys → Shape.okl W (a ++ b) (xs ++ ys)
  | [], _, [], _, _, h => h
  | _ :: _, _, _ :: _, _, ⟨h1, h2⟩, h => ⟨h1, okl_append h2 h⟩
  | [], _, _ :: _, _, h, _ => h.elim
  | _ :: _, _, [], _, h, _ => h.elim
theorem okl_length {W : World} : ∀ {a : List Shape} {xs : List Value}, Shape.okl W a xs → xs.length = a.length
  | [], [], _ => rfl
  | _ :: _, _ :: _, ⟨_, h⟩ => by simp [okl_length h]
  | [], _ :: _, h => h.elim
  | _ :: _, [], h => h.elim

theorem okl_cons {W : World} {s : Shape} {r : List Shape} {cs : List Value} (h : Shape.okl W (s :: r) cs) : ∃ v vs, cs = v :: vs ∧ s.ok W v ∧ Shape.okl W r vs := by
  cases cs with
  | nil => exact h.elim
  | cons v vs => exact ⟨v, vs, rfl, h.1, h.2⟩
theorem okl_nil {W : World} {cs : List Value} (h : Shape.okl W [] cs) : cs = [] := by
  cases cs with
  | nil => rfl
  | cons v vs => exact h.elim
theorem ok_int {W : World} {k : IntKind} {v : Value} (h : Shape.ok W (.int k) v) : ∃ n, v = .int k n ∧ (Lit.int k n).wf = true := by rw [Shape.ok] at h; exact h
theorem ok_bool {W : World} {v : Value} (h : Shape.ok W .bool v) : ∃ b, v = .bool b := by rw [Shape.ok] at h; exact h
theorem okl_int {W : World} {k : IntKind} {r : List Shape} {cs : List Value} (h : Shape.okl W (.int k :: r) cs) : ∃ n vs, cs = .int k n :: vs ∧ (Lit.int k n).wf = true ∧ Shape.okl W r vs := by
  obtain ⟨v, vs, rfl, h1, h2⟩ := okl_cons h
  obtain ⟨n, rfl, hn⟩ := ok_int h1
  exact ⟨n, vs, rfl, hn, h2⟩
theorem okl_bool {W : World} {r : List Shape} {cs : List Value} (h : Shape.okl W (.bool :: r) cs) : ∃ n vs, cs = .bool n :: vs ∧ Shape.okl W r vs := by
  obtain ⟨v, vs, rfl, h1, h2⟩ := okl_cons h
  obtain ⟨n, rfl⟩ := ok_bool h1
  exact ⟨n, vs, rfl, h2⟩
theorem addr_none {w : World} {a : Addr} {v : Value} (h : w.cell? (a.add 0) = some v) : a = ⟨a.block, a.off, none⟩ := by
  obtain ⟨b, o, sp⟩ := a
  cases sp with
  | none => rfl
  | some s => simp [World.cell?, Addr.add] at h; split at h <;> cases h
theorem add_none (b o i : Nat) : (⟨b, o, none⟩ : Addr).add i = ⟨b, o + i, none⟩ := by
  unfold Addr.add
  by_cases h : i = 0
  · subst h; rfl
  · rw [if_neg h]
theorem oks_of {W : World} : ∀ {es : List Shape} {b o : Nat} {cs : List Value}, Shape.okl W es cs → (∀ j, j < es.length → W.cell? ⟨b, o + j, none⟩ = cs[j]?) → Shape.oks W es b o
  | [], _, _, _, _, _ => by simp [Shape.oks]
  | s :: r, b, o, c :: cs, ⟨h1, h2⟩, h => by
    rw [Shape.oks]
    refine ⟨⟨c, by simpa using h 0 (by simp), h1⟩, oks_of (cs := cs) h2 (fun j hj => ?_)⟩
    have := h (j + 1) (by simpa using hj)
    rw [show o + 1 + j = o + (j + 1) by omega]
    simpa using this
  | _ :: _, _, _, [], h, _ => h.elim

section
variable {H : Type} {enc : TypeId × Value → H} {P : Program} {W : World}
theorem foldl_none (n : Nat) (fs : List Field) : fs.foldl (fun acc f => match acc, shapes P n f.type with
        | some a, some l => if f.offset = a.length ∧ l.length = P.cellsOf f.type then some (a ++ l) else none
        | _, _ => none) none = none := by
  induction fs with
  | nil => rfl
  | cons f r ih => simpa using ih
theorem fields_ok {n m : Nat} (ih : ∀ (t : TypeId) (ls : List Shape), shapes P n t = some ls → ∀ (cs : List Value) (x : DataW H × List MemPlace), DataW.trod enc P W 0 (fun _ => true) true m t cs = some x → ls.length = P.cellsOf t → Shape.okl W ls cs) (cs : List Value) :
    ∀ (fs : List Field) (a ls : List Shape), fs.foldl (fun acc f => match acc, shapes P n f.type with
        | some a, some l => if f.offset = a.length ∧ l.length = P.cellsOf f.type then some (a ++ l) else none
        | _, _ => none) (some a) = some ls → Shape.okl W a (cs.take a.length) → (∀ f ∈ fs, ∃ x, DataW.trod enc P W 0 (fun _ => true) true m f.type ((cs.drop f.offset).take (P.cellsOf f.type)) = some x) →
      Shape.okl W ls (cs.take ls.length)
  | [], a, ls, h, ha, _ => by
    simp at h; subst h; exact ha
  | f :: r, a, ls, h, ha, hf => by
    rw [List.foldl_cons] at h
    cases hs : shapes P n f.type with
    | none => rw [hs] at h; simp only [foldl_none] at h; cases h
    | some l =>
      rw [hs] at h
      simp only at h
      by_cases hc : f.offset = a.length ∧ l.length = P.cellsOf f.type
      · rw [if_pos hc] at h
        obtain ⟨x, hx⟩ := hf f List.mem_cons_self
        have h1 := ih _ _ hs _ _ hx hc.2
        refine fields_ok ih cs r (a ++ l) ls h ?_ (fun g hg => hf g (List.mem_cons_of_mem _ hg))
        rw [hc.1, ← hc.2] at h1
        have := okl_append ha h1
        rwa [← List.take_add, ← List.length_append] at this
      · rw [if_neg hc, foldl_none] at h; cases h
theorem array_ok {l : List Shape} {cs : List Value} : ∀ (k : Nat), (∀ i, i < k → Shape.okl W l ((cs.drop (i * l.length)).take l.length)) → Shape.okl W (List.replicate k l).flatten (cs.take (k * l.length))
  | 0, _ => by simp [Shape.okl]
  | k + 1, h => by
    have h1 := array_ok k (fun i hi => h i (by omega))
    have h2 := h k (by omega)
    have := okl_append h1 h2
    rw [← List.take_add] at this
    rw [List.replicate_succ', List.flatten_append, List.flatten_singleton, Nat.succ_mul]
    exact this

theorem open_shapes : ∀ (n : Nat) (t : TypeId) (ls : List Shape), shapes P n t = some ls → ∀ (m : Nat) (cs : List Value) (x : DataW H × List MemPlace), DataW.trod enc P W 0 (fun _ => true) true m t cs = some x → ls.length = P.cellsOf t → Shape.okl W ls cs
  | 0, _, _, h, _, _, _, _, _ => by simp [shapes] at h
  | n + 1, t, ls, h, m, cs, x, hx, hlen => by
    have ih : ∀ m, ∀ (t : TypeId) (ls : List Shape), shapes P n t = some ls → ∀ (cs : List Value) (x : DataW H × List MemPlace), DataW.trod enc P W 0 (fun _ => true) true m t cs = some x → ls.length = P.cellsOf t → Shape.okl W ls cs := fun m t ls h cs x hx hl => open_shapes n t ls h m cs x hx hl
    rw [shapes] at h
    cases hu : P.underlying t with
    | none => rw [hu] at h; cases h
    | some u =>
      rw [hu] at h
      cases u with
      | bool =>
        obtain ⟨b, rfl, _⟩ := DataW.trod_bool hu hx
        simp only [Option.some.injEq] at h; subst h
        exact ⟨⟨b, rfl⟩, trivial⟩
      | int k =>
        obtain ⟨b, rfl, _, hw⟩ := DataW.trod_int hu hx
        simp only [Option.some.injEq] at h; subst h
        exact ⟨⟨b, rfl, hw⟩, trivial⟩
      | string =>
        obtain ⟨b, rfl, _, hw⟩ := DataW.trod_string hu hx
        simp only [Option.some.injEq] at h; subst h
        exact ⟨⟨b, rfl, hw⟩, trivial⟩
      | slice e =>
        simp only at h
        cases hs : shapes P n e with
        | none => rw [hs] at h; cases h
        | some es =>
          rw [hs] at h
          simp only at h
          by_cases hc : es.length = P.cellsOf e ∧ es ≠ []
          · rw [if_pos hc] at h
            simp only [Option.some.injEq] at h; subst h
            rcases Deep.open_slice hu hx with ⟨e, _⟩ | ⟨a, len, cap, q, fu, D, Pl, rfl, _, hl, hcm, hq, _, hel⟩
            · subst e
              refine ⟨?_, trivial⟩
              rw [Shape.ok]
              exact ⟨_, _, _, rfl, Nat.le_refl _, Nat.zero_le _, .inl rfl⟩
            · refine ⟨?_, trivial⟩
              rw [Shape.ok]
              refine ⟨_, _, _, rfl, hl, hcm, ?_⟩
              simp only [if_true] at hq
              by_cases h0 : len = 0
              · exact .inl h0
              · have hpos : 0 < es.length := by
                  cases es with
                  | nil => exact absurd rfl hc.2
                  | cons _ _ => simp
                rw [← hc.1] at hel
                obtain ⟨cs0, hc0, ht0⟩ := hel 0 (by omega)
                obtain ⟨hb0, hl0, hat0⟩ := World.cells?_some hc0
                have hz := hat0 0 hpos
                have hz' : W.cell? (a.add 0) = some (cs0[0]'(by omega)) := by
                  have : (a.add (0 * es.length)).add 0 = a.add 0 := by simp [Addr.add]
                  rw [this] at hz; rw [hz]; simp
                have ha := addr_none hz'
                refine .inr ⟨a.block, a.off, by rw [← ha], fun _ => ?_, fun i hi => ?_⟩
                · exact World.block_lt_of_cell? W (a.add 0) hz'
                · obtain ⟨cs', hc', ht'⟩ := hel i (by omega)
                  obtain ⟨_, hl', hat'⟩ := World.cells?_some hc'
                  refine oks_of (cs := cs') (ih _ _ _ hs _ _ ht' hc.1) (fun j hj => ?_)
                  have := hat' j hj
                  rw [ha, add_none, add_none] at this
                  exact this
          · rw [if_neg hc] at h; cases h
      | struct fs =>
        simp only at h
        obtain ⟨xs, k, rfl, _, hl, hxl, hf⟩ := DataW.trod_struct hu hx
        have := fields_ok (ih k) cs fs.toList [] ls h (by simp [Shape.okl]) (fun f hm => by
          obtain ⟨i, hi, rfl⟩ := List.mem_iff_getElem.1 hm
          have hi' : i < fs.size := by simpa using hi
          have := hf i fs[i] (Array.getElem?_eq_getElem hi')
          rw [List.getElem?_eq_getElem (by omega)] at this
          exact ⟨_, by simpa using this⟩)
        rwa [List.take_of_length_le (by omega)] at this
      | array k e =>
        simp only at h
        cases hs : shapes P n e with
        | none => rw [hs] at h; cases h
        | some l =>
          rw [hs] at h
          simp only at h
          by_cases hc : l.length = P.cellsOf e
          · rw [if_pos hc] at h
            simp only [Option.some.injEq] at h
            obtain ⟨xs, q, rfl, _, hl, hxl, hf⟩ := DataW.trod_array hu hx
            have := array_ok (W := W) (l := l) (cs := cs) k (fun i hi => by
              have := hf i hi
              rw [List.getElem?_eq_getElem (by omega), ← hc] at this
              exact ih _ _ _ hs _ _ this hc)
            rw [List.take_of_length_le (by rw [hl, ← hlen, ← h]; simp [List.length_flatten])] at this
            rwa [h] at this
          · rw [if_neg hc] at h; cases h
      | _ => cases h
end
end Go.Proofs.YtpmcedfeiconfaaGreatDoor.Shp
