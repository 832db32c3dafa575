/- The reach of a state's lists: a value whose slices are of integers has each of them within the form's reach. -/
import Derived.Test.YtblkfbbdeodpjaaOpens
import Derived.Test.YtblkfbbdeodpjaaBigCopy
import Derived.SizedLaws
namespace Go.Proofs.Ytblkfbbdeodpjaa.Shp
open Go Go.ChangeShapes Go.WideShapes Go.Deep Go.Proofs.Ytblkfbbdeodpjaa.Wo Go.Proofs.Ytblkfbbdeodpjaa.Ap Go.Proofs.Ytblkfbbdeodpjaa.Wd
set_option linter.unusedVariables false
/-- Each slice among the cells is within the reach. -/
def Sm (cs : List Value) : Prop := ∀ ad n cap, Value.slice ad n cap ∈ cs → cap * 8 ≤ reachBytes
theorem Sm.append {a b : List Value} (h1 : Sm a) (h2 : Sm b) : Sm (a ++ b) := fun ad n cap h => (List.mem_append.1 h).elim (h1 ad n cap) (h2 ad n cap)
theorem Sm.nil : Sm [] := fun ad n cap h => by cases h
/-- Slices of elements of at least eight bytes. -/
def wide8 (P : Program) : Nat → TypeId → Bool
  | 0, _ => false
  | n + 1, t => match P.underlying t with
    | some .bool => true
    | some (.int _) => true
    | some .string => true
    | some (.slice e) => decide (8 ≤ P.bytesOf e)
    | some (.struct fs) => fs.toList.all fun f => wide8 P n f.type
    | some (.array _ e) => wide8 P n e
    | _ => false
section
variable {H : Type} {enc : TypeId × Value → H} {P : Program} {W : World}
theorem weights_mem_all {e : TypeId} {k : Nat} : ∀ {ds : List (DataW H)} {d : DataW H}, d ∈ ds → k ∈ d.weights P e → k ∈ DataW.weightsAll P e ds
  | [], _, h, _ => by cases h
  | d :: r, _, h, hk => by
    rw [DataW.weightsAll]
    rcases List.mem_cons.1 h with rfl | h
    · exact List.mem_append_left _ hk
    · exact List.mem_append_right _ (weights_mem_all h hk)
theorem foldl_noneS (n : Nat) (fs : List Field) : fs.foldl (fun acc f => match acc, shapes P n f.type with
        | some a, some l => if f.offset = a.length ∧ l.length = P.cellsOf f.type then some (a ++ l) else none
        | _, _ => none) none = none := by
  induction fs with
  | nil => rfl
  | cons f r ih => simpa using ih
theorem fields_sm {n m : Nat} (ih : ∀ (t : TypeId) (ls : List Shape), shapes P n t = some ls → wide8 P n t = true → ∀ (cs : List Value) (x : DataW H × List MemPlace), DataW.trod enc P W 0 (fun _ => true) true m t cs = some x → ls.length = P.cellsOf t → (∀ k ∈ x.1.weights P t, k ≤ reachBytes) → Sm cs) (cs : List Value) :
    ∀ (fs : List Field) (a ls : List Shape), fs.foldl (fun acc f => match acc, shapes P n f.type with
        | some a, some l => if f.offset = a.length ∧ l.length = P.cellsOf f.type then some (a ++ l) else none
        | _, _ => none) (some a) = some ls → Sm (cs.take a.length) → (∀ f ∈ fs, wide8 P n f.type = true ∧ ∃ x, DataW.trod enc P W 0 (fun _ => true) true m f.type ((cs.drop f.offset).take (P.cellsOf f.type)) = some x ∧ ∀ k ∈ x.1.weights P f.type, k ≤ reachBytes) →
      Sm (cs.take ls.length)
  | [], a, ls, h, ha, _ => by
    simp at h; subst h; exact ha
  | f :: r, a, ls, h, ha, hf => by
    rw [List.foldl_cons] at h
    cases hs : shapes P n f.type with
    | none => rw [hs] at h; exact absurd ((foldl_noneS n r).symm.trans h) (by simp)
    | some l =>
      rw [hs] at h
      simp only at h
      by_cases hc : f.offset = a.length ∧ l.length = P.cellsOf f.type
      · rw [if_pos hc] at h
        obtain ⟨hw, x, hx, hk⟩ := hf f List.mem_cons_self
        have h1 := ih _ _ hs hw _ _ hx hc.2 hk
        refine fields_sm ih cs r (a ++ l) ls h ?_ (fun g hg => hf g (List.mem_cons_of_mem _ hg))
        rw [hc.1, ← hc.2] at h1
        have := ha.append h1
        rwa [← List.take_add, ← List.length_append] at this
      · rw [if_neg hc] at h; exact absurd ((foldl_noneS n r).symm.trans h) (by simp)
theorem array_sm {l : Nat} {cs : List Value} : ∀ (k : Nat), (∀ i, i < k → Sm ((cs.drop (i * l)).take l)) → Sm (cs.take (k * l))
  | 0, _ => by simp [Sm]
  | k + 1, h => by
    have h1 := array_sm k (fun i hi => h i (by omega))
    have h2 := h k (by omega)
    have := h1.append h2
    rw [← List.take_add] at this
    rw [Nat.succ_mul]
    exact this
theorem small : ∀ (n : Nat) (t : TypeId) (ls : List Shape), shapes P n t = some ls → wide8 P n t = true → ∀ (m : Nat) (cs : List Value) (x : DataW H × List MemPlace), DataW.trod enc P W 0 (fun _ => true) true m t cs = some x → ls.length = P.cellsOf t → (∀ k ∈ x.1.weights P t, k ≤ reachBytes) → Sm cs
  | 0, _, _, h, _, _, _, _, _, _, _ => by simp [shapes] at h
  | n + 1, t, ls, h, hw, m, cs, x, hx, hlen, hk => by
    have ih : ∀ m, ∀ (t : TypeId) (ls : List Shape), shapes P n t = some ls → wide8 P n t = true → ∀ (cs : List Value) (x : DataW H × List MemPlace), DataW.trod enc P W 0 (fun _ => true) true m t cs = some x → ls.length = P.cellsOf t → (∀ k ∈ x.1.weights P t, k ≤ reachBytes) → Sm cs := fun m t ls h hw cs x hx hl hk => small n t ls h hw m cs x hx hl hk
    rw [shapes] at h
    rw [wide8] at hw
    cases hu : P.underlying t with
    | none => rw [hu] at h; cases h
    | some u =>
      rw [hu] at h hw
      cases u with
      | bool =>
        obtain ⟨b, rfl, _⟩ := DataW.trod_bool hu hx
        intro ad n cap hm; simp at hm
      | int k =>
        obtain ⟨b, rfl, _, hw⟩ := DataW.trod_int hu hx
        intro ad n cap hm; simp at hm
      | string =>
        obtain ⟨b, rfl, _, hw⟩ := DataW.trod_string hu hx
        intro ad n cap hm; simp at hm
      | slice e =>
        rcases Deep.open_slice hu hx with ⟨e, _⟩ | ⟨a, len, cap, q, fu, D, Pl, rfl, _, hl, hcm, hq, rfl, hel⟩
        · subst e
          intro ad n cap hm
          simp only [List.mem_singleton, Value.slice.injEq] at hm
          obtain ⟨_, _, rfl⟩ := hm
          simp
        · intro ad n cap' hm
          simp only [List.mem_singleton, Value.slice.injEq] at hm
          obtain ⟨_, _, rfl⟩ := hm
          simp only [if_true] at hq
          have hb : 8 ≤ P.bytesOf e := by simpa using hw
          have := hk ((len + (q - len)) * P.bytesOf e) (by simp [DataW.weights, hu])
          have h2 : cap' * 8 ≤ (len + (q - len)) * P.bytesOf e := Nat.mul_le_mul (by omega) hb
          omega
      | struct fs =>
        simp only at h hw
        obtain ⟨xs, k, rfl, rfl, hl, hxl, hf⟩ := DataW.trod_struct hu hx
        have := fields_sm (ih k) cs fs.toList [] ls h (by simp [Sm]) (fun f hm => by
          obtain ⟨i, hi, rfl⟩ := List.mem_iff_getElem.1 hm
          have hi' : i < fs.size := by simpa using hi
          have h3 := hf i fs[i] (Array.getElem?_eq_getElem hi')
          rw [List.getElem?_eq_getElem (by omega)] at h3
          refine ⟨by simpa using List.all_eq_true.1 hw _ hm, _, by simpa using h3, fun q hq => hk q ?_⟩
          simp only [DataW.weights, hu]
          exact DataW.weights_mem_each (j := i) (t := fs[i].type) (d := xs[i].1) (by simp [hi']) (by simp [hxl, hi']) q (by simpa using hq))
        rwa [List.take_of_length_le (by omega)] at this
      | array k e =>
        simp only at h hw
        cases hs : shapes P n e with
        | none => rw [hs] at h; cases h
        | some l =>
          rw [hs] at h
          simp only at h
          by_cases hc : l.length = P.cellsOf e
          · rw [if_pos hc] at h
            simp only [Option.some.injEq] at h
            obtain ⟨xs, q, rfl, rfl, hl, hxl, hf⟩ := DataW.trod_array hu hx
            have := array_sm (l := l.length) (cs := cs) k (fun i hi => by
              have h3 := hf i hi
              rw [List.getElem?_eq_getElem (by omega), ← hc] at h3
              refine ih _ _ _ hs hw _ _ h3 hc (fun q hq => hk q ?_)
              simp only [DataW.weights, hu]
              exact weights_mem_all (d := xs[i].1) (List.mem_map.2 ⟨_, List.getElem_mem (by omega), rfl⟩) hq)
            rw [List.take_of_length_le (by rw [hl, ← hlen, ← h]; simp [List.length_flatten])] at this
            exact this
          · rw [if_neg hc] at h; cases h
      | _ => cases h
theorem few_of_sm {W : World} {s : Wk} {x : St} (hl : Lies W s x) (h : Sm (wc s).toList) : Few bigN x := by
  have f : ∀ {k : IntKind} {y : Sl} {l : List Int}, Reads W k y.v l → y.v ∈ (wc s).toList → l.length ≤ bigN := fun {k y l} hr hm => by
    have h1 := h y.ad y.len y.cap hm
    have h2 := reads_le hr
    have h3 := reads_len hr
    unfold reachBytes at h1
    unfold bigN
    omega
  exact ⟨f hl.rk (by simp [wc]), f hl.l0 (by simp [wc]), f hl.l1 (by simp [wc]), f hl.l2 (by simp [wc]), f hl.hl (by simp [wc]), f hl.rd (by simp [wc])⟩
theorem work_wide : wide8 Try.prog 6 46 = true := by kernel_rfl
set_option maxRecDepth 100000 in
theorem open_workS {r : Reach} {b0 : Nat} {v : Value} {d : DataW H} {p : List MemPlace} (hv : Value.okWide Try.prog W r b0 46 v) (h : DataW.Trod enc Try.prog W 0 (fun _ => true) true 46 v d p) (hs : ∀ k ∈ d.weights Try.prog 46, k ≤ reachBytes) : ∃ s : Wk, v = wv s ∧ ∃ x, Lies W s x ∧ WFit x ∧ Few bigN x := by
  obtain ⟨cs, rfl, _⟩ := okWide_struct Try.underlying46 hv
  obtain ⟨fuel, hf⟩ := h
  obtain ⟨s, x, e, hl, hw⟩ := okl_work (open_shapes 6 _ _ work_shapes fuel _ _ hf (by kernel_rfl))
  have hsm := small 6 _ _ work_shapes work_wide fuel _ _ hf (by kernel_rfl) hs
  rw [e] at hsm
  obtain ⟨l⟩ := cs
  simp only [Value.cells] at e
  exact ⟨s, by rw [e], x, hl, hw, few_of_sm hl hsm⟩
end
end Go.Proofs.Ytblkfbbdeodpjaa.Shp
