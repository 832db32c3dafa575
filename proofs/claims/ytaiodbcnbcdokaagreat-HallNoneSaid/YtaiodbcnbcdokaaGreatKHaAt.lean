/- Part HaAt. -/
import Derived.ChangeArms
import Derived.Deep.Slices
import Derived.WideShapes
import Derived.ChangeShapes
import Derived.Test.YtaiodbcnbcdokaaGreatKOpRight
import Derived.Test.YtaiodbcnbcdokaaGreatKTakes
set_option linter.unusedVariables false
set_option linter.unusedSimpArgs false
set_option linter.unusedSectionVars false
set_option maxRecDepth 100000
set_option maxHeartbeats 16000000
section
namespace Go.Proofs.YtaiodbcnbcdokaaGreat.Shp
open Go Go.ChangeShapes Go.WideShapes Go.Deep
inductive Shape where
 | int (k : IntKind)
 | bool
 | str
 | slice (es : List Shape)
mutual
def Shape.ok (W : World) : Shape → Value → Prop
 | .int k, v => ∃ n, v = .int k n ∧ (Lit.int k n).wf = true
 | .bool, v => ∃ b, v = .bool b
 | .str, v => ∃ s : ByteArray, v = .string s ∧ s.size ≤ maxLen
 | .slice es, v => ∃ ad n cap, v = .slice ad n cap ∧ n ≤ cap ∧ cap ≤ maxLen ∧ (n = 0 ∨ ∃ b off, ad = some ⟨b, off, none⟩ ∧ (es ≠ [] → b < W.heap.size) ∧ ∀ i, i < n → Shape.oks W es b (off + i * es.length))
def Shape.oks (W : World) : List Shape → Nat → Nat → Prop
 | [], _, _ => True
 | s :: r, b, o => (∃ v, W.cell? ⟨b, o, none⟩ = some v ∧ Shape.ok W s v) ∧ Shape.oks W r b (o + 1)
end
def Shape.okl (W : World) : List Shape → List Value → Prop
 | [], [] => True
 | s :: r, v :: vs => s.ok W v ∧ Shape.okl W r vs
 | _, _ => False
def shapes (P : Program) : Nat → TypeId → Option (List Shape)
 | 0, _ => none
 | n + 1, t => match P.underlying t with
  | some .bool => some [.bool]
  | some (.int k) => some [.int k]
  | some .string => some [.str]
  | some (.slice e) => match shapes P n e with
   | some es => if es.length = P.cellsOf e ∧ es ≠ [] then some [.slice es] else none
   | none => none
  | some (.struct fs) => fs.toList.foldl (fun acc f => match acc, shapes P n f.type with
    | some a, some l => if f.offset = a.length ∧ l.length = P.cellsOf f.type then some (a ++ l) else none
    | _, _ => none) (some []) 
  | some (.array m e) => match shapes P n e with
   | some l => if l.length = P.cellsOf e then some (List.replicate m l).flatten else none
   | none => none
  | _ => none
theorem okl_append {W : World} : ∀ {a b : List Shape} {xs ys : List Value}, Shape.okl W a xs → Shape.okl W b ys → Shape.okl W (a ++ b) (xs ++ ys)
 | [], _, [], _, _, h => h
 | _ :: _, _, _ :: _, _, ⟨h1, h2⟩, h => ⟨h1, okl_append h2 h⟩
 | [], _, _ :: _, _, h, _ => h.elim
 | _ :: _, _, [], _, h, _ => h.elim
theorem okl_cons {W : World} {s : Shape} {r : List Shape} {cs : List Value} (h : Shape.okl W (s :: r) cs) : ∃ v vs, cs = v :: vs ∧ s.ok W v ∧ Shape.okl W r vs := by
 cases cs with
 | nil => exact h.elim
 | cons v vs => exact ⟨v, vs, rfl, h.1, h.2⟩
theorem okl_nil {W : World} {cs : List Value} (h : Shape.okl W [] cs) : cs = [] := by
 cases cs with
 | nil => rfl
 | cons v vs => exact h.elim
theorem ok_int {W : World} {k : IntKind} {v : Value} (h : Shape.ok W (.int k) v) : ∃ n, v = .int k n ∧ (Lit.int k n).wf = true := by rw [Shape.ok] at h; exact h
theorem jo {W : World} {k : IntKind} {r : List Shape} {cs : List Value} (h : Shape.okl W (.int k :: r) cs) : ∃ n vs, cs = .int k n :: vs ∧ (Lit.int k n).wf = true ∧ Shape.okl W r vs := by
 obtain ⟨v, vs, rfl, h1, h2⟩ := okl_cons h
 obtain ⟨n, rfl, hn⟩ := ok_int h1
 exact ⟨n, vs, rfl, hn, h2⟩
theorem addr_none {w : World} {a : Addr} {v : Value} (h : w.cell? (a.add 0) = some v) : a = ⟨a.block, a.off, none⟩ := by
 obtain ⟨b, o, sp⟩ := a
 cases sp with
 | none => rfl
 | some s => simp [World.cell?, Addr.add] at h; split at h <;> cases h
theorem add_none (b o i : Nat) : (⟨b, o, none⟩ : Addr).add i = ⟨b, o + i, none⟩ := by
 unfold Addr.add
 by_cases h : i = 0
 ·subst h; rfl
 ·rw [if_neg h]
theorem oks_of {W : World} : ∀ {es : List Shape} {b o : Nat} {cs : List Value}, Shape.okl W es cs → (∀ j, j < es.length → W.cell? ⟨b, o + j, none⟩ = cs[j]?) → Shape.oks W es b o
 | [], _, _, _, _, _ => by simp [Shape.oks]
 | s :: r, b, o, c :: cs, ⟨h1, h2⟩, h => by
  rw [Shape.oks]
  refine ⟨⟨c, by simpa using h 0 aF, h1⟩, oks_of (cs := cs) h2 (fun j hj => ?_)⟩
  have := h (j + 1) (by simpa using hj)
  rw [show o + 1 + j = o + (j + 1) by omega]
  simpa using this
 | _ :: _, _, _, [], h, _ => h.elim
section
variable {H : Type} {enc : TypeId × Value → H} {P : Program} {W : World}
theorem foldl_none (n : Nat) (fs : List Field) : fs.foldl (fun acc f => match acc, shapes P n f.type with
    | some a, some l => if f.offset = a.length ∧ l.length = P.cellsOf f.type then some (a ++ l) else none
    | _, _ => none) none = none := by
 induction fs with
 | nil => rfl
 | cons f r ih => simpa using ih
theorem fields_ok {n m : Nat} (ih : ∀ (t : TypeId) (ls : List Shape), shapes P n t = some ls → ∀ (cs : List Value) (x : DataW H × List MemPlace), DataW.trod enc P W 0 (fun _ => true) true m t cs = some x → ls.length = P.cellsOf t → Shape.okl W ls cs) (cs : List Value) :
  ∀ (fs : List Field) (a ls : List Shape), fs.foldl (fun acc f => match acc, shapes P n f.type with
    | some a, some l => if f.offset = a.length ∧ l.length = P.cellsOf f.type then some (a ++ l) else none
    | _, _ => none) (some a) = some ls → Shape.okl W a (cs.take a.length) → (∀ f ∈ fs, ∃ x, DataW.trod enc P W 0 (fun _ => true) true m f.type ((cs.drop f.offset).take (P.cellsOf f.type)) = some x) →
   Shape.okl W ls (cs.take ls.length)
 | [], a, ls, h, ha, _ => by
  simp at h; subst h; exact ha
 | f :: r, a, ls, h, ha, hf => by
  rw [List.foldl_cons] at h
  cases hs : shapes P n f.type with
  | none => rw [hs] at h; simp only [foldl_none] at h; cases h
  | some l =>
   rw [hs] at h
   simp only at h
   by_cases hc : f.offset = a.length ∧ l.length = P.cellsOf f.type
   ·rw [if_pos hc] at h
    obtain ⟨x, hx⟩ := hf f List.mem_cons_self
    have h1 := ih _ _ hs _ _ hx hc.2
    refine fields_ok ih cs r (a ++ l) ls h ?_ (fun g hg => hf g (List.mem_cons_of_mem _ hg))
    rw [hc.1, ← hc.2] at h1
    have := okl_append ha h1
    rwa [← List.take_add, ← List.length_append] at this
   ·rw [if_neg hc, foldl_none] at h; cases h
theorem array_ok {l : List Shape} {cs : List Value} : ∀ (k : Nat), (∀ i, i < k → Shape.okl W l ((cs.drop (i * l.length)).take l.length)) → Shape.okl W (List.replicate k l).flatten (cs.take (k * l.length))
 | 0, _ => by simp [Shape.okl]
 | k + 1, h => by
  have h1 := array_ok k (fun i hi => h i aj)
  have h2 := h k aj
  have := okl_append h1 h2
  rw [← List.take_add] at this
  rw [List.replicate_succ', List.flatten_append, List.flatten_singleton, Nat.succ_mul]
  exact this
theorem open_shapes : ∀ (n : Nat) (t : TypeId) (ls : List Shape), shapes P n t = some ls → ∀ (m : Nat) (cs : List Value) (x : DataW H × List MemPlace), DataW.trod enc P W 0 (fun _ => true) true m t cs = some x → ls.length = P.cellsOf t → Shape.okl W ls cs
 | 0, _, _, h, _, _, _, _, _ => by simp [shapes] at h
 | n + 1, t, ls, h, m, cs, x, hx, hlen => by
  have ih : ∀ m, ∀ (t : TypeId) (ls : List Shape), shapes P n t = some ls → ∀ (cs : List Value) (x : DataW H × List MemPlace), DataW.trod enc P W 0 (fun _ => true) true m t cs = some x → ls.length = P.cellsOf t → Shape.okl W ls cs := fun m t ls h cs x hx hl => open_shapes n t ls h m cs x hx hl
  rw [shapes] at h
  cases hu : P.underlying t with
  | none => rw [hu] at h; cases h
  | some u =>
   rw [hu] at h
   cases u with
   | bool =>
    obtain ⟨b, rfl, _⟩ := DataW.trod_bool hu hx
    simp only [Option.some.injEq] at h; subst h
    exact ⟨⟨b, rfl⟩, trivial⟩
   | int k =>
    obtain ⟨b, rfl, _, hw⟩ := DataW.trod_int hu hx
    simp only [Option.some.injEq] at h; subst h
    exact ⟨⟨b, rfl, hw⟩, trivial⟩
   | string =>
    obtain ⟨b, rfl, _, hw⟩ := DataW.trod_string hu hx
    simp only [Option.some.injEq] at h; subst h
    exact ⟨⟨b, rfl, hw⟩, trivial⟩
   | slice e =>
    simp only at h
    cases hs : shapes P n e with
    | none => rw [hs] at h; cases h
    | some es =>
     rw [hs] at h
     simp only at h
     by_cases hc : es.length = P.cellsOf e ∧ es ≠ []
     ·rw [if_pos hc] at h
      simp only [Option.some.injEq] at h; subst h
      rcases Deep.open_slice hu hx with ⟨e, _⟩ | ⟨a, len, cap, q, fu, D, Pl, rfl, _, hl, hcm, hq, _, hel⟩
      ·subst e
       refine ⟨?_, trivial⟩
       rw [Shape.ok]
       exact ⟨_, _, _, rfl, Nat.le_refl _, Nat.zero_le _, .inl rfl⟩
      ·refine ⟨?_, trivial⟩
       rw [Shape.ok]
       refine ⟨_, _, _, rfl, hl, hcm, ?_⟩
       simp only [if_true] at hq
       by_cases h0 : len = 0
       ·exact .inl h0
       ·have hpos : 0 < es.length := by
         cases es with
         | nil => exact absurd rfl hc.2
         | cons _ _ => simp
        rw [← hc.1] at hel
        obtain ⟨cs0, hc0, ht0⟩ := hel 0 aj
        obtain ⟨hb0, hl0, hat0⟩ := World.cells?_some hc0
        have hz := hat0 0 hpos
        have hz' : W.cell? (a.add 0) = some (cs0[0]'aj) := by
         have : (a.add (0 * es.length)).add 0 = a.add 0 := by simp [Addr.add]
         rw [this] at hz; rw [hz]; simp
        have ha := addr_none hz'
        refine .inr ⟨a.block, a.off, by rw [← ha], fun _ => ?_, fun i hi => ?_⟩
        ·exact World.block_lt_of_cell? W (a.add 0) hz'
        ·obtain ⟨cs', hc', ht'⟩ := hel i aj
         obtain ⟨_, hl', hat'⟩ := World.cells?_some hc'
         refine oks_of (cs := cs') (ih _ _ _ hs _ _ ht' hc.1) (fun j hj => ?_)
         have := hat' j hj
         rw [ha, add_none, add_none] at this
         exact this
     ·rw [if_neg hc] at h; cases h
   | struct fs =>
    simp only at h
    obtain ⟨xs, k, rfl, _, hl, hxl, hf⟩ := DataW.trod_struct hu hx
    have := fields_ok (ih k) cs fs.toList [] ls h (by simp [Shape.okl]) (fun f hm => by
     obtain ⟨i, hi, rfl⟩ := List.mem_iff_getElem.1 hm
     have hi' : i < fs.size := qa4g
     have := hf i fs[i] (Array.getElem?_eq_getElem hi')
     rw [List.getElem?_eq_getElem aj] at this
     exact ⟨_, by simpa using this⟩)
    rwa [List.take_of_length_le aj] at this
   | array k e =>
    simp only at h
    cases hs : shapes P n e with
    | none => rw [hs] at h; cases h
    | some l =>
     rw [hs] at h
     simp only at h
     by_cases hc : l.length = P.cellsOf e
     ·rw [if_pos hc] at h
      simp only [Option.some.injEq] at h
      obtain ⟨xs, q, rfl, _, hl, hxl, hf⟩ := DataW.trod_array hu hx
      have := array_ok (W := W) (l := l) (cs := cs) k (fun i hi => by
       have := hf i hi
       rw [List.getElem?_eq_getElem aj, ← hc] at this
       exact ih _ _ _ hs _ _ this hc)
      rw [List.take_of_length_le (by rw [hl, ← hlen, ← h]; simp [List.length_flatten])] at this
      rwa [h] at this
     ·rw [if_neg hc] at h; cases h
   | _ => cases h
end
end Go.Proofs.YtaiodbcnbcdokaaGreat.Shp
namespace Go.Proofs.YtaiodbcnbcdokaaGreat.Shp
open Go Go.ChangeShapes Go.WideShapes Go.Proofs.YtaiodbcnbcdokaaGreat.Pl
section
variable {H : Type} {enc : TypeId × Value → H} {W : World}
theorem wf_u64 {n : Int} (h : (Lit.int .u64 n).wf = true) : 0 ≤ n ∧ n < 18446744073709551616 := by
 simp only [Lit.wf, Bool.and_eq_true, decide_eq_true_eq] at h
 have h1 : IntKind.u64.min = 0 := aL
 have h2 : IntKind.u64.max = 18446744073709551615 := aL
 omega
abbrev i6 : Shape := .int .i64
abbrev u6 : Shape := .int .u64
theorem cfg_shapes : shapes Tryz.prog 3 24 = some [i6, i6, i6, i6, i6, i6, i6, u6] := ah
theorem okl_cfg {cs : List Value} (h : Shape.okl W [i6, i6, i6, i6, i6, i6, i6, u6] cs) : ∃ c : Cfg, cs = [.int .i64 c.ww, .int .i64 c.sl, .int .i64 c.bl, .int .i64 c.wd, .int .i64 c.en, .int .i64 c.rk, .int .i64 c.bg, .int .u64 c.la] ∧ c.Wf := by
 obtain ⟨n0, _, rfl, _, h⟩ := jo h
 obtain ⟨n1, _, rfl, _, h⟩ := jo h
 obtain ⟨n2, _, rfl, _, h⟩ := jo h
 obtain ⟨n3, _, rfl, _, h⟩ := jo h
 obtain ⟨n4, _, rfl, _, h⟩ := jo h
 obtain ⟨n5, _, rfl, _, h⟩ := jo h
 obtain ⟨n6, _, rfl, _, h⟩ := jo h
 obtain ⟨n7, _, rfl, h7, h⟩ := jo h
 obtain rfl := okl_nil h
 exact ⟨⟨n0, n1, n2, n3, n4, n5, n6, n7⟩, rfl, (wf_u64 h7).1, (wf_u64 h7).2⟩
theorem open_cfg {r : Reach} {b0 : Nat} {v : Value} {d : DataW H} {p : List MemPlace} (hv : Value.okWide Tryz.prog W r b0 24 v) (h : DataW.Trod enc Tryz.prog W 0 (fun _ => true) true 24 v d p) : ∃ c : Cfg, v = cv c ∧ c.Wf := by
 obtain ⟨cs, rfl, _⟩ := okWide_struct Tryz.underlying24 hv
 obtain ⟨fuel, hf⟩ := h
 obtain ⟨c, e, hc⟩ := okl_cfg (open_shapes 3 _ _ cfg_shapes fuel _ _ hf ah)
 obtain ⟨l⟩ := cs
 simp only [Value.cells] at e
 exact ⟨c, by rw [e], hc⟩
end
end Go.Proofs.YtaiodbcnbcdokaaGreat.Shp
namespace Go.Proofs.YtaiodbcnbcdokaaGreat.Shp
open Go Go.ChangeShapes Go.WideShapes Go.Proofs.YtaiodbcnbcdokaaGreat.Pl Wd Ap
theorem list_of {Q : Nat → Int → Prop} : ∀ (n : Nat), (∀ i, i < n → ∃ z, Q i z) → ∃ L : List Int, L.length = n ∧ ∀ i (h : i < L.length), Q i L[i]
 | 0, _ => ⟨[], rfl, fun i h => by simp at h⟩
 | n + 1, h => by
  obtain ⟨L, hl, hL⟩ := list_of n (fun i hi => h i aj)
  obtain ⟨z, hz⟩ := h n aj
  refine ⟨L ++ [z], by simp [hl], fun i hi => ?_⟩
  by_cases hin : i < L.length
  ·rw [List.getElem_append_left hin]; exact hL i hin
  ·obtain rfl : i = n := by simp at hi; omega
   subst hl
   simpa using hz
def Fit (k : IntKind) (L : List Int) : Prop := ∀ z ∈ L, (Lit.int k z).wf = true
theorem reads_of_ok {W : World} {k : IntKind} {v : Value} (h : Shape.ok W (.slice [.int k]) v) : ∃ (x : Sl) (L : List Int), v = x.v ∧ Reads W k x.v L ∧ Fit k L := by
 rw [Shape.ok] at h
 obtain ⟨ad, n, cap, rfl, h1, h2, h3⟩ := h
 rcases h3 with rfl | ⟨b, off, rfl, hb, hc⟩
 ·exact ⟨⟨ad, 0, cap⟩, [], rfl, ⟨ad, cap, rfl, h1, h2, .inl rfl⟩, fun z hz => by cases hz⟩
 ·obtain ⟨L, hl, hL⟩ := list_of (Q := fun i z => W.cell? ⟨b, off + i, none⟩ = some (.int k z) ∧ (Lit.int k z).wf = true) n (fun i hi => by
   have h4 := hc i hi
   rw [Shape.oks] at h4
   obtain ⟨⟨v, hv, hs⟩, _⟩ := h4
   obtain ⟨z, rfl, hz⟩ := ok_int hs
   exact ⟨z, by simpa using hv, hz⟩)
  subst hl
  refine ⟨⟨some ⟨b, off, none⟩, L.length, cap⟩, L, rfl, ⟨_, cap, rfl, h1, h2, .inr ⟨b, off, rfl, hb aF, fun i hi => (hL i hi).1⟩⟩, fun z hz => ?_⟩
  obtain ⟨i, hi, rfl⟩ := List.mem_iff_getElem.1 hz
  exact (hL i hi).2
section
variable {H : Type} {enc : TypeId × Value → H} {W : World}
theorem open_slice {r : Reach} {b0 : Nat} {t e : TypeId} {k : IntKind} {v : Value} {d : DataW H} {p : List MemPlace} (ht : Tryz.prog.underlying t = some (.slice e)) (hs : shapes Tryz.prog 2 t = some [.slice [.int k]]) (hc : 1 = Tryz.prog.cellsOf t)
  (hv : Value.okWide Tryz.prog W r b0 t v) (h : DataW.Trod enc Tryz.prog W 0 (fun _ => true) true t v d p) : ∃ (x : Sl), v = x.v ∧ ∃ L, Reads W k x.v L ∧ Fit k L := by
 obtain ⟨a, len, cap, rfl⟩ := okWide_slice ht hv
 obtain ⟨fuel, hf⟩ := h
 have hk := open_shapes 2 _ _ hs fuel _ _ hf (by simpa using hc)
 simp only [Value.cells] at hk
 obtain ⟨w, ws, e1, hok, hnil⟩ := okl_cons hk
 obtain rfl := okl_nil hnil
 simp only [List.cons.injEq, and_true] at e1
 subst e1
 obtain ⟨x, L, he, hr, hfit⟩ := reads_of_ok hok
 exact ⟨x, he, L, hr, hfit⟩
end
end Go.Proofs.YtaiodbcnbcdokaaGreat.Shp
end
section
namespace Go.Proofs.YtaiodbcnbcdokaaGreat.Scw
open Go Go.RowKit Go.ChangeMaps Gro Own Mr Opn Opw
def gL (w : World) (v : Value) (l : List OpD) : Prop :=
 ∃ ad cap, v = .slice ad l.length cap ∧ l.length ≤ cap ∧ cap ≤ maxLen ∧ (l = [] ∨ ∃ b off, ad = some ⟨b, off, none⟩ ∧ b < w.heap.size ∧ ∀ i (h : i < l.length), w.rangeAt b (off + i * 7) (opC l[i]).toList)
theorem gL.keep {w w' : World} {v : Value} {l : List OpD} (h : gL w v l) (hb : Below w.heap.size w w') : gL w' v l := by
 obtain ⟨ad, cap, rfl, h1, h2, h3⟩ := h
 refine ⟨ad, cap, rfl, h1, h2, ?_⟩
 rcases h3 with h3 | ⟨b, off, rfl, hl, hc⟩
 ·exact .inl h3
 ·exact .inr ⟨b, off, rfl, Nat.lt_of_lt_of_le hl hb.size, fun i hi j v hv => (hb.cell (p := ⟨b, _, none⟩) hl).trans (hc i hi j v hv)⟩
end Go.Proofs.YtaiodbcnbcdokaaGreat.Scw
end
section
namespace Go.Proofs.YtaiodbcnbcdokaaGreat.Shp
open Go Go.ChangeShapes Go.WideShapes Go.Proofs.YtaiodbcnbcdokaaGreat.Pl Wd Ap Wo
structure Ev where
 (tk wo n kd o0 o1 o2 o3 : Int) (o4 : Bool) (o5 o6 t rt : Int) (rd : Sl) (ln ak at_ x y old : Int)
def ec (e : Ev) : Array Value := #[.int .i64 e.tk, .int .i64 e.wo, .int .i64 e.n, .int .i64 e.kd, .int .i64 e.o0, .int .u64 e.o1, .int .u64 e.o2, .int .i64 e.o3, .bool e.o4, .int .i64 e.o5, .int .i64 e.o6, .int .u64 e.t, .int .i64 e.rt, e.rd.v, .int .i64 e.ln, .int .i64 e.ak, .int .i64 e.at_, .int .u64 e.x, .int .u64 e.y, .int .u64 e.old]
section
variable {H : Type} {enc : TypeId × Value → H} {W : World}
end
end Go.Proofs.YtaiodbcnbcdokaaGreat.Shp
end
section
namespace Go.Proofs.YtaiodbcnbcdokaaGreat.Ha
open Go Go.RowKit Go.ChangeMaps Gro Own Wd Ap Go.Proofs.YtaiodbcnbcdokaaGreat.Pl Wo Me Shp Opn
def spl {α : Type} (l : List α) (j : Nat) (vs : List α) : List α := l.take j ++ (vs ++ l.drop (j + vs.length))
theorem flat_at {α : Type} {n : Nat} : ∀ (L : List (List α)) (i j : Nat) (hi : i < L.length), (∀ l ∈ L, l.length = n) → j < n → L.flatten[n * i + j]? = L[i][j]?
 | l :: r, 0, j, _, hL, hj => by
  have := hL l aF
  simp only [List.flatten_cons, Nat.mul_zero, Nat.zero_add, List.getElem_cons_zero]
  exact List.getElem?_append_left aj
 | l :: r, i + 1, j, hi, hL, hj => by
  have h1 := hL l aF
  have ih := flat_at r i j qa4g (fun x hx => hL x (by simp [hx])) hj
  simp only [List.flatten_cons, List.getElem_cons_succ]
  rw [List.getElem?_append_right (by rw [h1, Nat.mul_succ]; omega), show n * (i + 1) + j - l.length = n * i + j by rw [h1, Nat.mul_succ]; omega]
  exact ih
theorem flat_len {α : Type} {n : Nat} : ∀ (L : List (List α)), (∀ l ∈ L, l.length = n) → L.flatten.length = n * L.length
 | [], _ => rfl
 | l :: r, hL => by
  have h1 := hL l aF
  have ih := flat_len r (fun x hx => hL x (by simp [hx]))
  rw [List.flatten_cons, List.length_append, ih, h1, List.length_cons, Nat.mul_succ]
  omega
theorem spl_flat {α : Type} {n : Nat} : ∀ (L : List (List α)) (i j : Nat) (vs : List α) (hi : i < L.length), (∀ l ∈ L, l.length = n) → j + vs.length ≤ n → spl L.flatten (n * i + j) vs = (L.set i (spl L[i] j vs)).flatten
 | l :: r, 0, j, vs, _, hL, hj => by
  have h1 := hL l aF
  simp only [spl, List.flatten_cons, Nat.mul_zero, Nat.zero_add, List.getElem_cons_zero, List.set_cons_zero]
  rw [List.take_append_of_le_length aj, List.drop_append_of_le_length aj]
  simp
 | l :: r, i + 1, j, vs, hi, hL, hj => by
  have h1 := hL l aF
  have ih := spl_flat r i j vs qa4g (fun x hx => hL x (by simp [hx])) hj
  simp only [spl, List.flatten_cons, List.getElem_cons_succ, List.set_cons_succ] at ih ⊢
  rw [show n * (i + 1) + j = l.length + (n * i + j) by rw [h1, Nat.mul_succ]; omega, show l.length + (n * i + j) + vs.length = l.length + (n * i + j + vs.length) by omega, List.take_length_add_append, List.drop_length_add_append, List.append_assoc, ih]
theorem setSub_spl : ∀ (vs : List Value) (cur : Array Value) (i : Nat), i + vs.length ≤ cur.size → Sub.gY cur i vs = (spl cur.toList i vs).toArray
 | [], cur, i, h => by simp [Sub.gY, spl]
 | v :: r, cur, i, h => by
  have hi : i < cur.size := by simp at h; omega
  rw [Sub.gY, setSub_spl r _ (i + 1) (by simp at h ⊢; omega)]
  congr 1
  simp only [spl, Array.toList_setIfInBounds, List.length_cons]
  have e1 : (cur.toList.set i v).take (i + 1) = cur.toList.take i ++ [v] := by
   rw [List.take_succ_eq_append_getElem qa4g, List.take_set_of_le (Nat.le_refl _)]
   simp
  rw [e1, List.drop_set_of_lt aj, List.append_assoc, show i + (r.length + 1) = i + 1 + r.length by omega]
  rfl
structure WkR where
 (pg : Sl) (bg : Int) (s : Wk) (td : Sl)
def wkC (r : WkR) : List Value := r.pg.v :: .int .i64 r.bg :: ((wc r.s).toList ++ [r.td.v])
def wsC (rs : List WkR) : Array Value := ((rs.map wkC).flatten).toArray
theorem wsC_all (rs : List WkR) : ∀ l ∈ rs.map wkC, l.length = 36 := fun l hl => by
 obtain ⟨r, _, rfl⟩ := List.mem_map.1 hl
 rfl
theorem wsC_size (rs : List WkR) : (wsC rs).size = 36 * rs.length := by
 unfold wsC
 rw [List.size_toArray, flat_len _ (wsC_all rs), List.length_map]
theorem jw (rs : List WkR) (i j : Nat) (hi : i < rs.length) (hj : j < 36) : (wsC rs)[36 * i + j]? = (wkC rs[i])[j]? := by
 unfold wsC
 rw [List.getElem?_toArray, flat_at _ i j qa4g (wsC_all rs) hj, List.getElem_map]
theorem wsC_sub (rs : List WkR) (i j : Nat) (vs : List Value) (r : WkR) (hi : i < rs.length) (hj : j + vs.length ≤ 36) (hr : spl (wkC rs[i]) j vs = wkC r) : Sub.gY (wsC rs) (36 * i + j) vs = wsC (rs.set i r) := by
 have hm : 36 * i + j + vs.length ≤ 36 * rs.length := aj
 rw [setSub_spl vs _ _ (by rw [wsC_size]; exact hm)]
 unfold wsC
 rw [List.map_set, ← hr, spl_flat (rs.map wkC) i j vs qa4g (wsC_all rs) hj, List.getElem_map]
theorem wsC_bg (rs : List WkR) (i : Nat) (n : Int) (hi : i < rs.length) : (wsC rs).setIfInBounds (36 * i + 1) (.int .i64 n) = wsC (rs.set i { rs[i] with bg := n }) := wsC_sub rs i 1 [.int .i64 n] _ hi aF rfl
theorem wsC_td (rs : List WkR) (i : Nat) (y : Sl) (hi : i < rs.length) : (wsC rs).setIfInBounds (36 * i + 35) y.v = wsC (rs.set i { rs[i] with td := y }) := wsC_sub rs i 35 [y.v] _ hi aF rfl
theorem wsC_st (rs : List WkR) (i : Nat) (s : Wk) (hi : i < rs.length) : Sub.gY (wsC rs) (36 * i + 2) (wc s).toList = wsC (rs.set i { rs[i] with s := s }) := wsC_sub rs i 2 (wc s).toList _ hi (by show 2 + 33 ≤ 36; omega) rfl
end Go.Proofs.YtaiodbcnbcdokaaGreat.Ha
end
section
namespace Go.Proofs.YtaiodbcnbcdokaaGreat.Ha
open Go Go.RowKit Go.ChangeMaps Gro Own Wd Ap Go.Proofs.YtaiodbcnbcdokaaGreat.Pl Wo Me Shp Opn
def Agr (P : Nat → Prop) (w w' : World) : Prop := w.heap.size ≤ w'.heap.size ∧ ∀ b, b < w.heap.size → P b → w'.heap[b]? = w.heap[b]?
theorem Agr.refl (P : Nat → Prop) (w : World) : Agr P w w := ⟨Nat.le_refl _, fun _ _ _ => rfl⟩
theorem Agr.trans {P : Nat → Prop} {w w1 w2 : World} (h : Agr P w w1) (k : Agr P w1 w2) : Agr P w w2 := ⟨Nat.le_trans h.1 k.1, fun b hb hp => (k.2 b (Nat.lt_of_lt_of_le hb h.1) hp).trans (h.2 b hb hp)⟩
theorem Agr.mono {P Q : Nat → Prop} {w w' : World} (h : Agr P w w') (hq : ∀ b, b < w.heap.size → Q b → P b) : Agr Q w w' := ⟨h.1, fun b hb q => h.2 b hb (hq b hb q)⟩
theorem Agr.below {P : Nat → Prop} {w w' : World} (h : Below w.heap.size w w') : Agr P w w' := ⟨h.size, fun b hb _ => h.block b hb⟩
theorem Agr.touch {P : Nat → Prop} {g gl : Nat} {w w' : World} (h : Me.Touch g gl w w') (h1 : ∀ b, P b → b ≠ g ∧ b ≠ gl) : Agr P w w' := ⟨h.size, fun b hb hp => h.block b hb (h1 b hp).1 (h1 b hp).2⟩
theorem Agr.cell {P : Nat → Prop} {w : World} {g j : Nat} {v : Value} (h : ¬ P g) : Agr P w (w.setCell ⟨g, j, none⟩ v) := ⟨by simp, fun b hb hp => heap_setCell_other w ⟨g, j, none⟩ b v (fun (e : b = g) => h (e ▸ hp))⟩
theorem Agr.row {P : Nat → Prop} {w : World} {g : Nat} {cs : Array Value} (h : ¬ P g) : Agr P w (w.setRow g cs) := ⟨by simp, fun b hb hp => setRow_other w g b cs (fun (e : b = g) => h (e ▸ hp))⟩
theorem Agr.grown {P : Nat → Prop} {w w' : World} {row : Option Nat} (h : w.grownBy w' row) (hp : ∀ b, P b → some b ≠ row) : Agr P w w' := ⟨h.size, fun b hb q => h.block b hb (hp b q)⟩
section
variable {P Q : Nat → Prop} {w w' : World}
theorem gQ {k : IntKind} {y : Sl} {l : List Int} (h : RdP P w k y l) (a : Agr P w w') : RdP P w' k y l := by
 refine ⟨?_, h.2⟩
 obtain ⟨ad, cap, he, h1, h2, h3⟩ := h.1
 refine ⟨ad, cap, he, h1, h2, ?_⟩
 rcases h3 with h3 | ⟨b, off, e2, hlt, hc⟩
 ·exact .inl h3
 ·rcases h.2 with h4 | h4
  ·exact .inl h4
  ·simp only [Sl.v, Value.slice.injEq] at he
   exact .inr ⟨b, off, e2, Nat.lt_of_lt_of_le hlt a.1, fun i hi => (World.cell?_of_block (a.2 b hlt (h4 _ (he.1.trans e2)))).trans (hc i hi)⟩
theorem lies_agr {s : Wk} {x : St} (h : aM P w s x) (a : Agr P w w') : aM P w' s x := ⟨h.p, gQ h.rk a, gQ h.l0 a, gQ h.l1 a, gQ h.l2 a, gQ h.hl a, gQ h.rd a⟩
theorem eH {g : Nat} {cs : Array Value} {t : TypeId} (h : Bk w g cs t) (a : Agr P w w') (hp : P g) : Bk w' g cs t := (a.2 g h.lt hp).trans h
theorem dO {B n sz : Nat} {e : TypeId} {y : Sl} {xs : List Value} (h : w.ownsRow B e sz y.v n xs) (a : Agr P w w') (hp : ∀ d, y.ad = some d → P d.block) : w'.ownsRow B e sz y.v n xs := by
 refine ⟨h.1, ?_⟩
 rcases h.2 with ⟨he, hn⟩ | ⟨g, cap, cur, he, hge, hh, rest⟩
 ·exact .inl ⟨he, hn⟩
 ·have e1 : y.ad = some ⟨g, 0, none⟩ := by simp only [Sl.v, Value.slice.injEq] at he; exact he.1
  exact .inr ⟨g, cap, cur, he, hge, (a.2 g (Array.getElem?_eq_some_iff.1 hh).1 (hp _ e1)).trans hh, rest⟩
def RdO (P : Nat → Prop) (w : World) (y : Sl) (l : List OpD) : Prop := Scw.gL w y.v l ∧ (l = [] ∨ ∀ d, y.ad = some d → P d.block)
theorem RdO.agr {y : Sl} {l : List OpD} (h : RdO P w y l) (a : Agr P w w') : RdO P w' y l := by
 refine ⟨?_, h.2⟩
 obtain ⟨ad, cap, he, h1, h2, h3⟩ := h.1
 refine ⟨ad, cap, he, h1, h2, ?_⟩
 rcases h3 with h3 | ⟨b, off, e2, hlt, hc⟩
 ·exact .inl h3
 ·rcases h.2 with h4 | h4
  ·exact .inl h4
  ·simp only [Sl.v, Value.slice.injEq] at he
   exact .inr ⟨b, off, e2, Nat.lt_of_lt_of_le hlt a.1, fun i hi j v hv => (World.cell?_of_block (a.2 b hlt (h4 _ (he.1.trans e2)))).trans (hc i hi j v hv)⟩
theorem RdO.mono {y : Sl} {l : List OpD} (h : RdO P w y l) (hq : ∀ b, b < w.heap.size → P b → Q b) : RdO Q w y l := qa1c
end
structure HG where
 (h m l w cap : Nat)
structure HR where
 (rs : List WkR) (ev : Sl) (es : List Ev)
def blk (y : Sl) (b : Nat) : Prop := ∃ d, y.ad = some d ∧ d.block = b
def dz (g : HG) (R : HR) (b : Nat) : Prop := b = g.h ∨ b = g.m ∨ b = g.l ∨ b = g.w ∨ blk R.ev b ∨ ∃ r ∈ R.rs, blk r.td b
structure WkD where
 (prog : List OpD) (bg : Nat) (st : St) (told : List Int)
structure PE where
 (e : Ev) (ws : List Int)
structure HD where
 (a : Acc) (L : List Int) (ws : List WkD) (ev : List PE) (tk : Nat)
structure WkA (P : Nat → Prop) (w : World) (r : WkR) (d : WkD) : Prop where
 pg : RdO P w r.pg d.prog
 bg : r.bg = d.bg
 st : aM P w r.s d.st
structure EvA (P : Nat → Prop) (w : World) (e : Ev) (p : PE) : Prop where
 eq : e = { p.e with rd := e.rd }
 rd : RdP P w .u64 e.rd p.ws
def evC (es : List Ev) : List Value := (es.map fun e => (ec e).toList).flatten
structure HL (P : Nat → Prop) (w : World) (R : HR) (H : HD) : Prop where
 len : R.rs.length = H.ws.length
 wk : ∀ i (h : i < R.rs.length) (h' : i < H.ws.length), WkA P w R.rs[i] H.ws[i]
 evl : R.es.length = H.ev.length
 evw : ∀ i (h : i < R.es.length) (h' : i < H.ev.length), EvA P w R.es[i] H.ev[i]
abbrev HTy : TypeId := 102
abbrev WTy : TypeId := 106
abbrev ETy : TypeId := 70
abbrev UTy : TypeId := 22
def hC (g : HG) (R : HR) (tk : Int) : Array Value := #[.pointer (some ⟨g.m, 0, none⟩), .slice (some ⟨g.w, 0, none⟩) R.rs.length R.rs.length, .slice R.ev.ad R.ev.len R.ev.cap, .int .i64 tk]
structure HM (w : World) (g : HG) (c : Cfg) (R : HR) (H : HD) : Prop where
 box : Bk w g.h (hC g R H.tk) HTy
 mem : aC 0 w g.m c H.a g.l g.cap H.L
 row : Bk w g.w (wsC R.rs) WTy
 ev : w.ownsRow 0 ETy 20 R.ev.v R.es.length (evC R.es)
 td : ∀ i (h : i < R.rs.length) (h' : i < H.ws.length), w.ownsRow 0 UTy 1 R.rs[i].td.v H.ws[i].told.length (H.ws[i].told.map (.int .u64))
 tdl : ∀ i (h : i < R.rs.length), ¬ blk R.rs[i].td g.l
 tdne : ∀ i j (h : i < R.rs.length) (h' : j < R.rs.length) b, i ≠ j → blk R.rs[i].td b → ¬ blk R.rs[j].td b
structure HA (S : Nat → Prop) (w : World) (g : HG) (c : Cfg) (R : HR) (H : HD) : Prop where
 ls : HL (fun b => S b ∧ ¬ dz g R b) w R H
 mu : HM w g c R H
 sub : ∀ b, dz g R b → S b
 lt : ∀ b, S b → b < w.heap.size
section
variable {P Q S : Nat → Prop} {w w' : World} {g : HG} {c : Cfg} {R : HR} {H : HD}
theorem WkA.agr {r : WkR} {d : WkD} (h : WkA P w r d) (a : Agr P w w') : WkA P w' r d := ⟨h.pg.agr a, h.bg, lies_agr h.st a⟩
theorem WkA.mono {r : WkR} {d : WkD} (h : WkA P w r d) (hq : ∀ b, b < w.heap.size → P b → Q b) : WkA Q w r d := ⟨h.pg.mono hq, h.bg, h.st.mono hq⟩
theorem EvA.agr {e : Ev} {p : PE} (h : EvA P w e p) (a : Agr P w w') : EvA P w' e p := ⟨h.eq, gQ h.rd a⟩
theorem EvA.mono {e : Ev} {p : PE} (h : EvA P w e p) (hq : ∀ b, b < w.heap.size → P b → Q b) : EvA Q w e p := ⟨h.eq, h.rd.mono hq⟩
theorem HL.agr (h : HL P w R H) (a : Agr P w w') : HL P w' R H := ⟨h.len, fun i q q' => (h.wk i q q').agr a, h.evl, fun i q q' => (h.evw i q q').agr a⟩
theorem HL.mono (h : HL P w R H) (hq : ∀ b, b < w.heap.size → P b → Q b) : HL Q w R H := ⟨h.len, fun i q q' => (h.wk i q q').mono hq, h.evl, fun i q q' => (h.evw i q q').mono hq⟩
theorem mem_agr (M : aC 0 w g.m c H.a g.l g.cap H.L) (a : Agr P w w') (h1 : P g.m) (h2 : P g.l) : aC 0 w' g.m c H.a g.l g.cap H.L :=
 ⟨eH M.B a h1, dO (y := ⟨some ⟨g.l, 0, none⟩, H.L.length, g.cap⟩) M.W a (fun d hd => by injection hd with hd; subst hd; exact h2), M.g0, M.ne⟩
theorem HM.agr (h : HM w g c R H) (a : Agr (dz g R) w w') : HM w' g c R H :=
 ⟨eH h.box a (.inl rfl), mem_agr h.mem a (.inr (.inl rfl)) (.inr (.inr (.inl rfl))), eH h.row a (.inr (.inr (.inr (.inl rfl)))), dO h.ev a (fun d hd => .inr (.inr (.inr (.inr (.inl ⟨d, hd, rfl⟩))))), fun i q q' => dO (h.td i q q') a (fun d hd => .inr (.inr (.inr (.inr (.inr ⟨_, List.getElem_mem q, d, hd, rfl⟩))))), h.tdl, h.tdne⟩
theorem HA.out (h : HA S w g c R H) (a : Agr S w w') : HA S w' g c R H := ⟨h.ls.agr (a.mono fun b _ q => q.1), h.mu.agr (a.mono fun b _ q => h.sub b q), h.sub, fun b q => Nat.lt_of_lt_of_le (h.lt b q) a.1⟩
theorem HA.wider (h : HA S w g c R H) (hs : ∀ b, S b → Q b) (hq : ∀ b, Q b → b < w.heap.size) : HA Q w g c R H := ⟨h.ls.mono fun b hb q => ⟨hs b q.1, q.2⟩, h.mu, fun b q => hs b (h.sub b q), hq⟩
theorem HA.keep (h : HA S w g c R H) (hb : Below w.heap.size w w') : HA S w' g c R H := h.out (Agr.below hb)
theorem blk_own {B n sz : Nat} {e : TypeId} {y : Sl} {xs : List Value} (h : w.ownsRow B e sz y.v n xs) {b : Nat} (hb : blk y b) : ∃ cur, w.heap[b]? = some (.cells cur e (0, 0)) := by
 obtain ⟨d, hd, rfl⟩ := hb
 rcases h.2 with ⟨he, _⟩ | ⟨g, cap, cur, he, hge, hh, _⟩
 ·simp only [Sl.v, Value.slice.injEq] at he; rw [he.1] at hd; cases hd
 ·simp only [Sl.v, Value.slice.injEq] at he; rw [he.1] at hd; cases hd; exact ⟨cur, hh⟩
theorem bk_neT {b b' : Nat} {cs cs' : Array Value} {t t' : TypeId} (h : Bk w b cs t) (h' : Bk w b' cs' t') (ht : t ≠ t') : b ≠ b' := fun e => by
 subst e
 unfold Bk at h h'
 rw [h] at h'
 injection h' with h'
 injection h' with _ h2
 exact ht h2
theorem blk_neT {B n sz b b' : Nat} {e t : TypeId} {y : Sl} {xs : List Value} {cs : Array Value} (h : w.ownsRow B e sz y.v n xs) (hb : blk y b) (h' : Bk w b' cs t) (ht : t ≠ e) : b ≠ b' := fun he => by
 subst he
 obtain ⟨cur, hc⟩ := blk_own h hb
 unfold Bk at h'
 rw [hc] at h'
 injection h' with h'
 injection h' with _ h2
 exact ht h2.symm
end
end Go.Proofs.YtaiodbcnbcdokaaGreat.Ha
end
