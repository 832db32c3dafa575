/- Arguments opened by their shape: a type whose cells are integers, bools, strings and slices of such cells; what a value of it reads as, cell by cell. -/
import Derived.ChangeArms
import Derived.OpenShut
import Derived.Deep.Slices
import Derived.Below
import Derived.ProofKit
import Derived.Test.YtgpdkagmacpghaaGreatRows
import Derived.Test.YtgpdkagmacpghaaGreatPlans
import Derived.WideShapes
import Derived.ChangeShapes
import Derived.Test.YtgpdkagmacpghaaGreatApp
import Derived.Test.YtgpdkagmacpghaaGreatWorks
namespace Go.Proofs.YtgpdkagmacpghaaGreat.Shp
open Go Go.ChangeShapes Go.WideShapes Go.Deep
set_option linter.unusedVariables false

inductive Shape where
  | int (k : IntKind)
  | bool
  | str
  | slice (es : List Shape)

mutual
def Shape.ok (W : World) : Shape → Value → Prop
  | .int k, v => ∃ n, v = .int k n ∧ (Lit.int k n).wf = true
  | .bool, v => ∃ b, v = .bool b
  | .str, v => ∃ s : ByteArray, v = .string s ∧ s.size ≤ maxLen
  | .slice es, v => ∃ ad n cap, v = .slice ad n cap ∧ n ≤ cap ∧ cap ≤ maxLen ∧ (n = 0 ∨ ∃ b off, ad = some ⟨b, off, none⟩ ∧ (es ≠ [] → b < W.heap.size) ∧ ∀ i, i < n → Shape.oks W es b (off + i * es.length))
def Shape.oks (W : World) : List Shape → Nat → Nat → Prop
  | [], _, _ => True
  | s :: r, b, o => (∃ v, W.cell? ⟨b, o, none⟩ = some v ∧ Shape.ok W s v) ∧ Shape.oks W r b (o + 1)
end
def Shape.okl (W : World) : List Shape → List Value → Prop
  | [], [] => True
  | s :: r, v :: vs => s.ok W v ∧ Shape.okl W r vs
  | _, _ => False

/-- The cells of a type, in order; none where a type is met that has no such shape. -/
def shapes (P : Program) : Nat → TypeId → Option (List Shape)
  | 0, _ => none
  | n + 1, t => match P.underlying t with
    | some .bool => some [.bool]
    | some (.int k) => some [.int k]
    | some .string => some [.str]
    | some (.slice e) => match shapes P n e with
      | some es => if es.length = P.cellsOf e ∧ es ≠ [] then some [.slice es] else none
      | none => none
    | some (.struct fs) => fs.toList.foldl (fun acc f => match acc, shapes P n f.type with
        | some a, some l => if f.offset = a.length ∧ l.length = P.cellsOf f.type then some (a ++ l) else none
        | _, _ => none) (some []) 
    | some (.array m e) => match shapes P n e with
      | some l => if l.length = P.cellsOf e then some (List.replicate m l).flatten else none
      | none => none
    | _ => none

theorem okl_append {W : World} : ∀ {a b : List Shape} {xs ys : List Value}, Shape.okl W a xs → Shape.okl W b ys → Shape.okl W (a ++ b) (xs ++ ys)
  | [], _, [], _, _, h => h
  | _ :: _, _, _ :: _, _, ⟨h1, h2⟩, h => ⟨h1, okl_append h2 h⟩
  | [], _, _ :: _, _, h, _ => h.elim
  | _ :: _, _, [], _, h, _ => h.elim
theorem okl_length {W : World} : ∀ {a : List Shape} {xs : List Value}, Shape.okl W a xs → xs.length = a.length
  | [], [], _ => rfl
  | _ :: _, _ :: _, ⟨_, h⟩ => by simp [okl_length h]
  | [], _ :: _, h => h.elim
  | _ :: _, [], h => h.elim

theorem okl_cons {W : World} {s : Shape} {r : List Shape} {cs : List Value} (h : Shape.okl W (s :: r) cs) : ∃ v vs, cs = v :: vs ∧ s.ok W v ∧ Shape.okl W r vs := by
  cases cs with
  | nil => exact h.elim
  | cons v vs => exact ⟨v, vs, rfl, h.1, h.2⟩
theorem okl_nil {W : World} {cs : List Value} (h : Shape.okl W [] cs) : cs = [] := by
  cases cs with
  | nil => rfl
  | cons v vs => exact h.elim
theorem ok_int {W : World} {k : IntKind} {v : Value} (h : Shape.ok W (.int k) v) : ∃ n, v = .int k n ∧ (Lit.int k n).wf = true := by rw [Shape.ok] at h; exact h
theorem ok_bool {W : World} {v : Value} (h : Shape.ok W .bool v) : ∃ b, v = .bool b := by rw [Shape.ok] at h; exact h
theorem okl_int {W : World} {k : IntKind} {r : List Shape} {cs : List Value} (h : Shape.okl W (.int k :: r) cs) : ∃ n vs, cs = .int k n :: vs ∧ (Lit.int k n).wf = true ∧ Shape.okl W r vs := by
  obtain ⟨v, vs, rfl, h1, h2⟩ := okl_cons h
  obtain ⟨n, rfl, hn⟩ := ok_int h1
  exact ⟨n, vs, rfl, hn, h2⟩
theorem okl_bool {W : World} {r : List Shape} {cs : List Value} (h : Shape.okl W (.bool :: r) cs) : ∃ n vs, cs = .bool n :: vs ∧ Shape.okl W r vs := by
  obtain ⟨v, vs, rfl, h1, h2⟩ := okl_cons h
  obtain ⟨n, rfl⟩ := ok_bool h1
  exact ⟨n, vs, rfl, h2⟩
theorem addr_none {w : World} {a : Addr} {v : Value} (h : w.cell? (a.add 0) = some v) : a = ⟨a.block, a.off, none⟩ := by
  obtain ⟨b, o, sp⟩ := a
  cases sp with
  | none => rfl
  | some s => simp [World.cell?, Addr.add] at h; split at h <;> cases h
theorem add_none (b o i : Nat) : (⟨b, o, none⟩ : Addr).add i = ⟨b, o + i, none⟩ := by
  unfold Addr.add
  by_cases h : i = 0
  · subst h; rfl
  · rw [if_neg h]
theorem oks_of {W : World} : ∀ {es : List Shape} {b o : Nat} {cs : List Value}, Shape.okl W es cs → (∀ j, j < es.length → W.cell? ⟨b, o + j, none⟩ = cs[j]?) → Shape.oks W es b o
  | [], _, _, _, _, _ => by simp [Shape.oks]
  | s :: r, b, o, c :: cs, ⟨h1, h2⟩, h => by
    rw [Shape.oks]
    refine ⟨⟨c, by simpa using h 0 (by simp), h1⟩, oks_of (cs := cs) h2 (fun j hj => ?_)⟩
    have := h (j + 1) (by simpa using hj)
    rw [show o + 1 + j = o + (j + 1) by omega]
    simpa using this
  | _ :: _, _, _, [], h, _ => h.elim

section
variable {H : Type} {enc : TypeId × Value → H} {P : Program} {W : World}
theorem foldl_none (n : Nat) (fs : List Field) : fs.foldl (fun acc f => match acc, shapes P n f.type with
        | some a, some l => if f.offset = a.length ∧ l.length = P.cellsOf f.type then some (a ++ l) else none
        | _, _ => none) none = none := by
  induction fs with
  | nil => rfl
  | cons f r ih => simpa using ih
theorem fields_ok {n m : Nat} (ih : ∀ (t : TypeId) (ls : List Shape), shapes P n t = some ls → ∀ (cs : List Value) (x : DataW H × List MemPlace), DataW.trod enc P W 0 (fun _ => true) true m t cs = some x → ls.length = P.cellsOf t → Shape.okl W ls cs) (cs : List Value) :
    ∀ (fs : List Field) (a ls : List Shape), fs.foldl (fun acc f => match acc, shapes P n f.type with
        | some a, some l => if f.offset = a.length ∧ l.length = P.cellsOf f.type then some (a ++ l) else none
        | _, _ => none) (some a) = some ls → Shape.okl W a (cs.take a.length) → (∀ f ∈ fs, ∃ x, DataW.trod enc P W 0 (fun _ => true) true m f.type ((cs.drop f.offset).take (P.cellsOf f.type)) = some x) →
      Shape.okl W ls (cs.take ls.length)
  | [], a, ls, h, ha, _ => by
    simp at h; subst h; exact ha
  | f :: r, a, ls, h, ha, hf => by
    rw [List.foldl_cons] at h
    cases hs : shapes P n f.type with
    | none => rw [hs] at h; simp only [foldl_none] at h; cases h
    | some l =>
      rw [hs] at h
      simp only at h
      by_cases hc : f.offset = a.length ∧ l.length = P.cellsOf f.type
      · rw [if_pos hc] at h
        obtain ⟨x, hx⟩ := hf f List.mem_cons_self
        have h1 := ih _ _ hs _ _ hx hc.2
        refine fields_ok ih cs r (a ++ l) ls h ?_ (fun g hg => hf g (List.mem_cons_of_mem _ hg))
        rw [hc.1, ← hc.2] at h1
        have := okl_append ha h1
        rwa [← List.take_add, ← List.length_append] at this
      · rw [if_neg hc, foldl_none] at h; cases h
theorem array_ok {l : List Shape} {cs : List Value} : ∀ (k : Nat), (∀ i, i < k → Shape.okl W l ((cs.drop (i * l.length)).take l.length)) → Shape.okl W (List.replicate k l).flatten (cs.take (k * l.length))
  | 0, _ => by simp [Shape.okl]
  | k + 1, h => by
    have h1 := array_ok k (fun i hi => h i (by omega))
    have h2 := h k (by omega)
    have := okl_append h1 h2
    rw [← List.take_add] at this
    rw [List.replicate_succ', List.flatten_append, List.flatten_singleton, Nat.succ_mul]
    exact this

theorem open_shapes : ∀ (n : Nat) (t : TypeId) (ls : List Shape), shapes P n t = some ls → ∀ (m : Nat) (cs : List Value) (x : DataW H × List MemPlace), DataW.trod enc P W 0 (fun _ => true) true m t cs = some x → ls.length = P.cellsOf t → Shape.okl W ls cs
  | 0, _, _, h, _, _, _, _, _ => by simp [shapes] at h
  | n + 1, t, ls, h, m, cs, x, hx, hlen => by
    have ih : ∀ m, ∀ (t : TypeId) (ls : List Shape), shapes P n t = some ls → ∀ (cs : List Value) (x : DataW H × List MemPlace), DataW.trod enc P W 0 (fun _ => true) true m t cs = some x → ls.length = P.cellsOf t → Shape.okl W ls cs := fun m t ls h cs x hx hl => open_shapes n t ls h m cs x hx hl
    rw [shapes] at h
    cases hu : P.underlying t with
    | none => rw [hu] at h; cases h
    | some u =>
      rw [hu] at h
      cases u with
      | bool =>
        obtain ⟨b, rfl, _⟩ := DataW.trod_bool hu hx
        simp only [Option.some.injEq] at h; subst h
        exact ⟨⟨b, rfl⟩, trivial⟩
      | int k =>
        obtain ⟨b, rfl, _, hw⟩ := DataW.trod_int hu hx
        simp only [Option.some.injEq] at h; subst h
        exact ⟨⟨b, rfl, hw⟩, trivial⟩
      | string =>
        obtain ⟨b, rfl, _, hw⟩ := DataW.trod_string hu hx
        simp only [Option.some.injEq] at h; subst h
        exact ⟨⟨b, rfl, hw⟩, trivial⟩
      | slice e =>
        simp only at h
        cases hs : shapes P n e with
        | none => rw [hs] at h; cases h
        | some es =>
          rw [hs] at h
          simp only at h
          by_cases hc : es.length = P.cellsOf e ∧ es ≠ []
          · rw [if_pos hc] at h
            simp only [Option.some.injEq] at h; subst h
            rcases Deep.open_slice hu hx with ⟨e, _⟩ | ⟨a, len, cap, q, fu, D, Pl, rfl, _, hl, hcm, hq, _, hel⟩
            · subst e
              refine ⟨?_, trivial⟩
              rw [Shape.ok]
              exact ⟨_, _, _, rfl, Nat.le_refl _, Nat.zero_le _, .inl rfl⟩
            · refine ⟨?_, trivial⟩
              rw [Shape.ok]
              refine ⟨_, _, _, rfl, hl, hcm, ?_⟩
              simp only [if_true] at hq
              by_cases h0 : len = 0
              · exact .inl h0
              · have hpos : 0 < es.length := by
                  cases es with
                  | nil => exact absurd rfl hc.2
                  | cons _ _ => simp
                rw [← hc.1] at hel
                obtain ⟨cs0, hc0, ht0⟩ := hel 0 (by omega)
                obtain ⟨hb0, hl0, hat0⟩ := World.cells?_some hc0
                have hz := hat0 0 hpos
                have hz' : W.cell? (a.add 0) = some (cs0[0]'(by omega)) := by
                  have : (a.add (0 * es.length)).add 0 = a.add 0 := by simp [Addr.add]
                  rw [this] at hz; rw [hz]; simp
                have ha := addr_none hz'
                refine .inr ⟨a.block, a.off, by rw [← ha], fun _ => ?_, fun i hi => ?_⟩
                · exact World.block_lt_of_cell? W (a.add 0) hz'
                · obtain ⟨cs', hc', ht'⟩ := hel i (by omega)
                  obtain ⟨_, hl', hat'⟩ := World.cells?_some hc'
                  refine oks_of (cs := cs') (ih _ _ _ hs _ _ ht' hc.1) (fun j hj => ?_)
                  have := hat' j hj
                  rw [ha, add_none, add_none] at this
                  exact this
          · rw [if_neg hc] at h; cases h
      | struct fs =>
        simp only at h
        obtain ⟨xs, k, rfl, _, hl, hxl, hf⟩ := DataW.trod_struct hu hx
        have := fields_ok (ih k) cs fs.toList [] ls h (by simp [Shape.okl]) (fun f hm => by
          obtain ⟨i, hi, rfl⟩ := List.mem_iff_getElem.1 hm
          have hi' : i < fs.size := by simpa using hi
          have := hf i fs[i] (Array.getElem?_eq_getElem hi')
          rw [List.getElem?_eq_getElem (by omega)] at this
          exact ⟨_, by simpa using this⟩)
        rwa [List.take_of_length_le (by omega)] at this
      | array k e =>
        simp only at h
        cases hs : shapes P n e with
        | none => rw [hs] at h; cases h
        | some l =>
          rw [hs] at h
          simp only at h
          by_cases hc : l.length = P.cellsOf e
          · rw [if_pos hc] at h
            simp only [Option.some.injEq] at h
            obtain ⟨xs, q, rfl, _, hl, hxl, hf⟩ := DataW.trod_array hu hx
            have := array_ok (W := W) (l := l) (cs := cs) k (fun i hi => by
              have := hf i hi
              rw [List.getElem?_eq_getElem (by omega), ← hc] at this
              exact ih _ _ _ hs _ _ this hc)
            rw [List.take_of_length_le (by rw [hl, ← hlen, ← h]; simp [List.length_flatten])] at this
            rwa [h] at this
          · rw [if_neg hc] at h; cases h
      | _ => cases h
end
end Go.Proofs.YtgpdkagmacpghaaGreat.Shp

/- Arguments of the laws, opened: a configuration, by the shape of its cells. -/
namespace Go.Proofs.YtgpdkagmacpghaaGreat.Shp
open Go Go.ChangeShapes Go.WideShapes Go.Proofs.YtgpdkagmacpghaaGreat.Pl
set_option linter.unusedVariables false
section
variable {H : Type} {enc : TypeId × Value → H} {W : World}
theorem wf_u64 {n : Int} (h : (Lit.int .u64 n).wf = true) : 0 ≤ n ∧ n < 18446744073709551616 := by
  simp only [Lit.wf, Bool.and_eq_true, decide_eq_true_eq] at h
  have h1 : IntKind.u64.min = 0 := by decide
  have h2 : IntKind.u64.max = 18446744073709551615 := by decide
  omega
theorem wf_i64 {n : Int} (h : (Lit.int .i64 n).wf = true) : -9223372036854775808 ≤ n ∧ n < 9223372036854775808 := by
  simp only [Lit.wf, Bool.and_eq_true, decide_eq_true_eq] at h
  have h1 : IntKind.i64.min = -9223372036854775808 := by decide
  have h2 : IntKind.i64.max = 9223372036854775807 := by decide
  omega
theorem wf_u8 {n : Int} (h : (Lit.int .u8 n).wf = true) : 0 ≤ n ∧ n < 256 := by
  simp only [Lit.wf, Bool.and_eq_true, decide_eq_true_eq] at h
  have h1 : IntKind.u8.min = 0 := by decide
  have h2 : IntKind.u8.max = 255 := by decide
  omega
abbrev i6 : Shape := .int .i64
abbrev u6 : Shape := .int .u64
theorem cfg_shapes : shapes Tryz.prog 3 24 = some [i6, i6, i6, i6, i6, i6, i6, u6] := by kernel_rfl
theorem okl_cfg {cs : List Value} (h : Shape.okl W [i6, i6, i6, i6, i6, i6, i6, u6] cs) : ∃ c : Cfg, cs = [.int .i64 c.ww, .int .i64 c.sl, .int .i64 c.bl, .int .i64 c.wd, .int .i64 c.en, .int .i64 c.rk, .int .i64 c.bg, .int .u64 c.la] ∧ c.Wf := by
  obtain ⟨n0, _, rfl, _, h⟩ := okl_int h
  obtain ⟨n1, _, rfl, _, h⟩ := okl_int h
  obtain ⟨n2, _, rfl, _, h⟩ := okl_int h
  obtain ⟨n3, _, rfl, _, h⟩ := okl_int h
  obtain ⟨n4, _, rfl, _, h⟩ := okl_int h
  obtain ⟨n5, _, rfl, _, h⟩ := okl_int h
  obtain ⟨n6, _, rfl, _, h⟩ := okl_int h
  obtain ⟨n7, _, rfl, h7, h⟩ := okl_int h
  obtain rfl := okl_nil h
  exact ⟨⟨n0, n1, n2, n3, n4, n5, n6, n7⟩, rfl, (wf_u64 h7).1, (wf_u64 h7).2⟩
set_option maxRecDepth 100000 in
theorem open_cfg {r : Reach} {b0 : Nat} {v : Value} {d : DataW H} {p : List MemPlace} (hv : Value.okWide Tryz.prog W r b0 24 v) (h : DataW.Trod enc Tryz.prog W 0 (fun _ => true) true 24 v d p) : ∃ c : Cfg, v = cv c ∧ c.Wf := by
  obtain ⟨cs, rfl, _⟩ := okWide_struct Tryz.underlying24 hv
  obtain ⟨fuel, hf⟩ := h
  obtain ⟨c, e, hc⟩ := okl_cfg (open_shapes 3 _ _ cfg_shapes fuel _ _ hf (by kernel_rfl))
  obtain ⟨l⟩ := cs
  simp only [Value.cells] at e
  exact ⟨c, by rw [e], hc⟩
end
end Go.Proofs.YtgpdkagmacpghaaGreat.Shp

/- Arguments of the laws, opened: slices of integers. -/
namespace Go.Proofs.YtgpdkagmacpghaaGreat.Shp
open Go Go.ChangeShapes Go.WideShapes Go.Proofs.YtgpdkagmacpghaaGreat.Pl Go.Proofs.YtgpdkagmacpghaaGreat.Wd Go.Proofs.YtgpdkagmacpghaaGreat.Ap
set_option linter.unusedVariables false
theorem list_of {Q : Nat → Int → Prop} : ∀ (n : Nat), (∀ i, i < n → ∃ z, Q i z) → ∃ L : List Int, L.length = n ∧ ∀ i (h : i < L.length), Q i L[i]
  | 0, _ => ⟨[], rfl, fun i h => by simp at h⟩
  | n + 1, h => by
    obtain ⟨L, hl, hL⟩ := list_of n (fun i hi => h i (by omega))
    obtain ⟨z, hz⟩ := h n (by omega)
    refine ⟨L ++ [z], by simp [hl], fun i hi => ?_⟩
    by_cases hin : i < L.length
    · rw [List.getElem_append_left hin]; exact hL i hin
    · obtain rfl : i = n := by simp at hi; omega
      subst hl
      simpa using hz
/-- The integers fit their kind. -/
def Fit (k : IntKind) (L : List Int) : Prop := ∀ z ∈ L, (Lit.int k z).wf = true
theorem reads_of_ok {W : World} {k : IntKind} {v : Value} (h : Shape.ok W (.slice [.int k]) v) : ∃ (x : Sl) (L : List Int), v = x.v ∧ Reads W k x.v L ∧ Fit k L := by
  rw [Shape.ok] at h
  obtain ⟨ad, n, cap, rfl, h1, h2, h3⟩ := h
  rcases h3 with rfl | ⟨b, off, rfl, hb, hc⟩
  · exact ⟨⟨ad, 0, cap⟩, [], rfl, ⟨ad, cap, rfl, h1, h2, .inl rfl⟩, fun z hz => by cases hz⟩
  · obtain ⟨L, hl, hL⟩ := list_of (Q := fun i z => W.cell? ⟨b, off + i, none⟩ = some (.int k z) ∧ (Lit.int k z).wf = true) n (fun i hi => by
      have h4 := hc i hi
      rw [Shape.oks] at h4
      obtain ⟨⟨v, hv, hs⟩, _⟩ := h4
      obtain ⟨z, rfl, hz⟩ := ok_int hs
      exact ⟨z, by simpa using hv, hz⟩)
    subst hl
    refine ⟨⟨some ⟨b, off, none⟩, L.length, cap⟩, L, rfl, ⟨_, cap, rfl, h1, h2, .inr ⟨b, off, rfl, hb (by simp), fun i hi => (hL i hi).1⟩⟩, fun z hz => ?_⟩
    obtain ⟨i, hi, rfl⟩ := List.mem_iff_getElem.1 hz
    exact (hL i hi).2
section
variable {H : Type} {enc : TypeId × Value → H} {W : World}
theorem ints_shapes : shapes Tryz.prog 2 27 = some [.slice [.int .i64]] := by kernel_rfl
set_option maxRecDepth 100000 in
theorem open_slice {r : Reach} {b0 : Nat} {t e : TypeId} {k : IntKind} {v : Value} {d : DataW H} {p : List MemPlace} (ht : Tryz.prog.underlying t = some (.slice e)) (hs : shapes Tryz.prog 2 t = some [.slice [.int k]]) (hc : 1 = Tryz.prog.cellsOf t)
    (hv : Value.okWide Tryz.prog W r b0 t v) (h : DataW.Trod enc Tryz.prog W 0 (fun _ => true) true t v d p) : ∃ (x : Sl), v = x.v ∧ ∃ L, Reads W k x.v L ∧ Fit k L := by
  obtain ⟨a, len, cap, rfl⟩ := okWide_slice ht hv
  obtain ⟨fuel, hf⟩ := h
  have hk := open_shapes 2 _ _ hs fuel _ _ hf (by simpa using hc)
  simp only [Value.cells] at hk
  obtain ⟨w, ws, e1, hok, hnil⟩ := okl_cons hk
  obtain rfl := okl_nil hnil
  simp only [List.cons.injEq, and_true] at e1
  subst e1
  obtain ⟨x, L, he, hr, hfit⟩ := reads_of_ok hok
  exact ⟨x, he, L, hr, hfit⟩
set_option maxRecDepth 100000 in
theorem open_ints {r : Reach} {b0 : Nat} {v : Value} {d : DataW H} {p : List MemPlace} (hv : Value.okWide Tryz.prog W r b0 27 v) (h : DataW.Trod enc Tryz.prog W 0 (fun _ => true) true 27 v d p) : ∃ (x : Sl), v = x.v ∧ ∃ L, Reads W .i64 x.v L ∧ Fit .i64 L :=
  open_slice Tryz.underlying27 ints_shapes (by kernel_rfl) hv h
theorem words_shapes : shapes Tryz.prog 2 31 = some [.slice [.int .u64]] := by kernel_rfl
set_option maxRecDepth 100000 in
theorem open_words {r : Reach} {b0 : Nat} {v : Value} {d : DataW H} {p : List MemPlace} (hv : Value.okWide Tryz.prog W r b0 31 v) (h : DataW.Trod enc Tryz.prog W 0 (fun _ => true) true 31 v d p) : ∃ (x : Sl), v = x.v ∧ ∃ L, Reads W .u64 x.v L ∧ Fit .u64 L :=
  open_slice Tryz.underlying31 words_shapes (by kernel_rfl) hv h
end
end Go.Proofs.YtgpdkagmacpghaaGreat.Shp

/- Arguments of the laws, opened: a state of a worker (made by genopenw.py). -/
namespace Go.Proofs.YtgpdkagmacpghaaGreat.Shp
open Go Go.ChangeShapes Go.WideShapes Go.Proofs.YtgpdkagmacpghaaGreat.Pl Go.Proofs.YtgpdkagmacpghaaGreat.Wd Go.Proofs.YtgpdkagmacpghaaGreat.Ap Go.Proofs.YtgpdkagmacpghaaGreat.Wo
set_option linter.unusedVariables false
theorem okl_slice {W : World} {k : IntKind} {r : List Shape} {cs : List Value} (h : Shape.okl W (.slice [.int k] :: r) cs) : ∃ (y : Sl) (l : List Int) (vs : List Value), cs = y.v :: vs ∧ Reads W k y.v l ∧ Fit k l ∧ Shape.okl W r vs := by
  obtain ⟨v, vs, rfl, h1, h2⟩ := okl_cons h
  obtain ⟨y, l, rfl, hr, hf⟩ := reads_of_ok h1
  exact ⟨y, l, vs, rfl, hr, hf, h2⟩
/-- The integers of a state fit their kinds. -/
structure WFit (x : St) : Prop where
  ln : (Lit.int .i64 x.p.ln).wf = true
  o0 : (Lit.int .i64 x.p.o0).wf = true
  o1 : (Lit.int .u64 x.p.o1).wf = true
  o2 : (Lit.int .u64 x.p.o2).wf = true
  o3 : (Lit.int .i64 x.p.o3).wf = true
  o5 : (Lit.int .i64 x.p.o5).wf = true
  o6 : (Lit.int .i64 x.p.o6).wf = true
  ep : (Lit.int .u64 x.p.ep).wf = true
  t0 : (Lit.int .u64 x.p.t0).wf = true
  t1 : (Lit.int .u64 x.p.t1).wf = true
  t2 : (Lit.int .u64 x.p.t2).wf = true
  b : (Lit.int .i64 x.p.b).wf = true
  k : (Lit.int .i64 x.p.k).wf = true
  i : (Lit.int .i64 x.p.i).wf = true
  c : (Lit.int .i64 x.p.c).wf = true
  br : (Lit.int .i64 x.p.br).wf = true
  h : (Lit.int .u64 x.p.h).wf = true
  n : (Lit.int .u64 x.p.n).wf = true
  v : (Lit.int .u64 x.p.v).wf = true
  u : (Lit.int .u64 x.p.u).wf = true
  g : (Lit.int .u64 x.p.g).wf = true
  j : (Lit.int .i64 x.p.j).wf = true
  t : (Lit.int .u64 x.p.t).wf = true
  rt : (Lit.int .i64 x.p.rt).wf = true
  frk : Fit .i64 x.rk
  fl0 : Fit .i64 x.l0
  fl1 : Fit .i64 x.l1
  fl2 : Fit .i64 x.l2
  fhl : Fit .i64 x.hl
  frd : Fit .u64 x.rd
abbrev workSh : List Shape := [i6, i6, u6, u6, i6, .bool, i6, i6, .bool, u6, (.slice [.int .i64]), u6, (.slice [.int .i64]), u6, (.slice [.int .i64]), u6, (.slice [.int .i64]), (.slice [.int .i64]), i6, i6, i6, i6, i6, u6, u6, u6, u6, u6, i6, (.slice [.int .u64]), u6, i6, .bool]
section
variable {H : Type} {enc : TypeId × Value → H} {W : World}
theorem work_shapes : shapes Tryz.prog 6 34 = some workSh := by kernel_rfl
set_option maxRecDepth 100000 in
theorem okl_work {cs : List Value} (h : Shape.okl W workSh cs) : ∃ s x, cs = (wc s).toList ∧ Lies W s x ∧ WFit x := by
  unfold workSh at h
  obtain ⟨nln, _, rfl, qln, h⟩ := okl_int h
  obtain ⟨no0, _, rfl, qo0, h⟩ := okl_int h
  obtain ⟨no1, _, rfl, qo1, h⟩ := okl_int h
  obtain ⟨no2, _, rfl, qo2, h⟩ := okl_int h
  obtain ⟨no3, _, rfl, qo3, h⟩ := okl_int h
  obtain ⟨no4, _, eo4, h1⟩ := okl_bool h
  subst eo4
  have h := h1
  clear h1
  obtain ⟨no5, _, rfl, qo5, h⟩ := okl_int h
  obtain ⟨no6, _, rfl, qo6, h⟩ := okl_int h
  obtain ⟨npn, _, epn, h1⟩ := okl_bool h
  subst epn
  have h := h1
  clear h1
  obtain ⟨nep, _, rfl, qep, h⟩ := okl_int h
  obtain ⟨yrk, lrk, _, rfl, rrk, qrk, h⟩ := okl_slice h
  obtain ⟨nt0, _, rfl, qt0, h⟩ := okl_int h
  obtain ⟨yl0, ll0, _, rfl, rl0, ql0, h⟩ := okl_slice h
  obtain ⟨nt1, _, rfl, qt1, h⟩ := okl_int h
  obtain ⟨yl1, ll1, _, rfl, rl1, ql1, h⟩ := okl_slice h
  obtain ⟨nt2, _, rfl, qt2, h⟩ := okl_int h
  obtain ⟨yl2, ll2, _, rfl, rl2, ql2, h⟩ := okl_slice h
  obtain ⟨yhl, lhl, _, rfl, rhl, qhl, h⟩ := okl_slice h
  obtain ⟨nb, _, rfl, qb, h⟩ := okl_int h
  obtain ⟨nk, _, rfl, qk, h⟩ := okl_int h
  obtain ⟨ni, _, rfl, qi, h⟩ := okl_int h
  obtain ⟨nc, _, rfl, qc, h⟩ := okl_int h
  obtain ⟨nbr, _, rfl, qbr, h⟩ := okl_int h
  obtain ⟨nh, _, rfl, qh, h⟩ := okl_int h
  obtain ⟨nn, _, rfl, qn, h⟩ := okl_int h
  obtain ⟨nv, _, rfl, qv, h⟩ := okl_int h
  obtain ⟨nu, _, rfl, qu, h⟩ := okl_int h
  obtain ⟨ng, _, rfl, qg, h⟩ := okl_int h
  obtain ⟨nj, _, rfl, qj, h⟩ := okl_int h
  obtain ⟨yrd, lrd, _, rfl, rrd, qrd, h⟩ := okl_slice h
  obtain ⟨nt, _, rfl, qt, h⟩ := okl_int h
  obtain ⟨nrt, _, rfl, qrt, h⟩ := okl_int h
  obtain ⟨ngv, _, egv, h1⟩ := okl_bool h
  subst egv
  have h := h1
  clear h1
  obtain rfl := okl_nil h
  refine ⟨⟨⟨nln, no0, no1, no2, no3, no4, no5, no6, npn, nep, nt0, nt1, nt2, nb, nk, ni, nc, nbr, nh, nn, nv, nu, ng, nj, nt, nrt, ngv⟩, yrk, yl0, yl1, yl2, yhl, yrd⟩, ⟨⟨nln, no0, no1, no2, no3, no4, no5, no6, npn, nep, nt0, nt1, nt2, nb, nk, ni, nc, nbr, nh, nn, nv, nu, ng, nj, nt, nrt, ngv⟩, lrk, ll0, ll1, ll2, lhl, lrd⟩, rfl, ⟨rfl, rrk, rl0, rl1, rl2, rhl, rrd⟩, ⟨qln, qo0, qo1, qo2, qo3, qo5, qo6, qep, qt0, qt1, qt2, qb, qk, qi, qc, qbr, qh, qn, qv, qu, qg, qj, qt, qrt, qrk, ql0, ql1, ql2, qhl, qrd⟩⟩
set_option maxRecDepth 100000 in
theorem open_work {r : Reach} {b0 : Nat} {v : Value} {d : DataW H} {p : List MemPlace} (hv : Value.okWide Tryz.prog W r b0 34 v) (h : DataW.Trod enc Tryz.prog W 0 (fun _ => true) true 34 v d p) : ∃ s : Wk, v = wv s ∧ ∃ x, Lies W s x ∧ WFit x := by
  obtain ⟨cs, rfl, _⟩ := okWide_struct Tryz.underlying34 hv
  obtain ⟨fuel, hf⟩ := h
  obtain ⟨s, x, e, hl, hw⟩ := okl_work (open_shapes 6 _ _ work_shapes fuel _ _ hf (by kernel_rfl))
  obtain ⟨l⟩ := cs
  simp only [Value.cells] at e
  exact ⟨s, by rw [e], x, hl, hw⟩
end
end Go.Proofs.YtgpdkagmacpghaaGreat.Shp
