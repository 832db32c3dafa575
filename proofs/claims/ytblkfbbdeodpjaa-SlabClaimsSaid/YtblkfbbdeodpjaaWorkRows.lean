/- A slice of states of the call's own: its block's cells, one state read, one state stored, one made. -/
import Derived.Test.YtblkfbbdeodpjaaWorks
import Derived.Test.YtblkfbbdeodpjaaRefs
import Derived.Deep.MidRow
import Derived.Laws.MakeOwn
namespace Go.Proofs.Ytblkfbbdeodpjaa.Wo
open Go Go.RowKit Go.Proofs.Ytblkfbbdeodpjaa.Gro Go.Proofs.Ytblkfbbdeodpjaa.Own Go.Proofs.Ytblkfbbdeodpjaa.Wd Go.Proofs.Ytblkfbbdeodpjaa.Ap Go.Proofs.Ytblkfbbdeodpjaa.Pl
set_option linter.unusedVariables false
set_option linter.unusedSimpArgs false
def wcL (xs : List Wk) : List Value := xs.flatMap fun s => (wc s).toList
def wcs (xs : List Wk) : Array Value := (wcL xs).toArray
theorem wc_len (s : Wk) : (wc s).toList.length = 33 := rfl
theorem wcL_len : ∀ xs : List Wk, (wcL xs).length = 33 * xs.length
  | [] => rfl
  | s :: r => by
    have := wcL_len r
    simp only [wcL, List.flatMap_cons, List.length_append, wc_len, List.length_cons] at this ⊢
    omega
theorem wcL_get : ∀ (xs : List Wk) (k : Nat) (h : k < xs.length) (j : Nat), j < 33 → (wcL xs)[k * 33 + j]? = (wc xs[k]).toList[j]?
  | [], k, h, _, _ => by simp at h
  | s :: r, 0, h, j, hj => by
    simp only [wcL, List.flatMap_cons]
    rw [List.getElem?_append_left (by rw [wc_len]; omega)]
    simp
  | s :: r, k + 1, h, j, hj => by
    have ih := wcL_get r k (by simpa using h) j hj
    simp only [wcL, List.flatMap_cons] at ih ⊢
    rw [List.getElem?_append_right (by rw [wc_len]; omega), wc_len, show (k + 1) * 33 + j - 33 = k * 33 + j by omega]
    exact ih
theorem wcs_get {xs : List Wk} {k : Nat} (h : k < xs.length) {j : Nat} (hj : j < 33) : (wcs xs)[k * 33 + j]? = (wc xs[k])[j]? := by
  have := wcL_get xs k h j hj
  simpa [wcs] using this
theorem setSub_size (vs : List Value) : ∀ (i : Nat) (cur : Array Value), (Sub.setSub cur i vs).size = cur.size := by
  induction vs with
  | nil => intro i cur; rfl
  | cons v r ih => intro i cur; rw [Sub.setSub, ih]; simp
theorem setSub_get (vs : List Value) : ∀ (i : Nat) (cur : Array Value) (m : Nat), i + vs.length ≤ cur.size → (Sub.setSub cur i vs)[m]? = if i ≤ m ∧ m < i + vs.length then vs[m - i]? else cur[m]? := by
  induction vs with
  | nil => intro i cur m h; rw [Sub.setSub, if_neg (by simp <;> omega)]
  | cons v r ih =>
    intro i cur m h
    simp only [List.length_cons] at h ⊢
    rw [Sub.setSub, ih (i + 1) (cur.setIfInBounds i v) m (by simp; omega)]
    by_cases h1 : i + 1 ≤ m ∧ m < i + 1 + r.length
    · rw [if_pos h1, if_pos (by omega), show m - i = (m - (i + 1)) + 1 by omega, List.getElem?_cons_succ]
    · rw [if_neg h1]
      by_cases h2 : m = i
      · subst h2
        rw [if_pos (by omega), Nat.sub_self, List.getElem?_cons_zero, Array.getElem?_setIfInBounds_self_of_lt (by omega)]
      · rw [if_neg (by omega), Array.getElem?_setIfInBounds_ne (by omega)]
theorem wcL_out {xs : List Wk} {m : Nat} (h : 33 * xs.length ≤ m) : (wcL xs)[m]? = none := List.getElem?_eq_none (by rw [wcL_len]; exact h)
theorem wcs_size (xs : List Wk) : (wcs xs).size = 33 * xs.length := by simp [wcs, wcL_len]
theorem wcs_set {xs : List Wk} {k : Nat} (h : k < xs.length) (s : Wk) : Sub.setSub (wcs xs) (k * 33) (wc s).toList = wcs (xs.set k s) := by
  apply Array.ext_getElem?
  intro m
  rw [setSub_get _ _ _ _ (by rw [wcs_size, wc_len]; omega), wc_len]
  by_cases hm : m < 33 * xs.length
  · have e : m = (m / 33) * 33 + m % 33 := by omega
    have h1 : m % 33 < 33 := Nat.mod_lt _ (by omega)
    have h2 : m / 33 < xs.length := by omega
    by_cases hk : m / 33 = k
    · rw [if_pos (by omega)]
      have := wcs_get (xs := xs.set k s) (k := k) (by simpa using h) h1
      rw [show k * 33 + m % 33 = m by omega] at this
      rw [this, show m - k * 33 = m % 33 by omega]
      simp
    · rw [if_neg (by omega)]
      have a1 := wcs_get (xs := xs) h2 h1
      have a2 := wcs_get (xs := xs.set k s) (k := m / 33) (by simpa using h2) h1
      rw [← e] at a1 a2
      rw [a1, a2, List.getElem_set_ne (by omega)]
  · rw [if_neg (by omega)]
    have b1 : (wcs xs)[m]? = none := Array.getElem?_eq_none (by rw [wcs_size]; omega)
    have b2 : (wcs (xs.set k s))[m]? = none := Array.getElem?_eq_none (by rw [wcs_size]; simp; omega)
    rw [b1, b2]
section
variable {w : World} {g : Nat} {xs : List Wk}
/-- The cells of one state. -/
theorem wcs_range (B : Bk w g (wcs xs) 46) {k : Nat} (h : k < xs.length) : w.rangeAt g (k * 33) (wc xs[k]).toList := fun j v hv => by
  have hj : j < 33 := by have := (List.getElem?_eq_some_iff.1 hv).1; rw [wc_len] at this; exact this
  rw [B.cells, wcs_get h hj]
  simpa using hv
theorem wcs_cell (B : Bk w g (wcs xs) 46) {k : Nat} (h : k < xs.length) {j : Nat} (hj : j < 33) : w.cell? ⟨g, k * 33 + j, none⟩ = (wc xs[k])[j]? := by
  rw [B.cells, wcs_get h hj]
end
theorem infoW : ∃ i, Try.prog.info? 46 = some i ∧ i.zero = some (wv wz) ∧ i.size = 33 ∧ i.bytes ≤ 1024 := by
  have h : (Try.prog.info? 46).map (fun i => (i.zero, i.size, Nat.ble i.bytes 1024)) = some (some (wv wz), 33, true) := by kernel_rfl
  cases hq : Try.prog.info? 46 with
  | none => rw [hq] at h; cases h
  | some i =>
    rw [hq] at h
    simp only [Option.map_some, Option.some.injEq, Prod.mk.injEq] at h
    exact ⟨i, rfl, h.1, h.2.1, Nat.le_of_ble_eq_true h.2.2⟩
theorem made_works (n : Nat) : madeCells (Value.cells (wv wz)) (n * 33) = wcs (List.replicate n wz) := by
  have hz : Value.cells (wv wz) = wc wz := rfl
  have hs : (wc wz).size = 33 := rfl
  apply Array.ext_getElem?
  intro m
  by_cases hm : m < n * 33
  · have h1 : m % 33 < 33 := Nat.mod_lt _ (by omega)
    have h2 : m / 33 < (List.replicate n wz).length := by simp; omega
    have a1 := wcs_get h2 h1
    rw [show m / 33 * 33 + m % 33 = m by omega, List.getElem_replicate] at a1
    rw [a1, hz]
    simp only [madeCells, Array.getElem?_map, hs]
    rw [Array.getElem?_eq_getElem (by simpa using hm)]
    simp only [Option.map_some, Array.getElem_range]
    rw [getElem!_pos _ _ (by rw [hs]; exact h1), Array.getElem?_eq_getElem (by rw [hs]; exact h1)]
  · rw [Array.getElem?_eq_none (by rw [size_madeCells]; omega), Array.getElem?_eq_none (by rw [wcs_size]; simp; omega)]
theorem make_works {ops : Array Oper} {rest : List Oper} {o : Oper} {a : Act} {w : World} {Q : Exit → Act → World → Prop} {t : TypeId}
    (E : Try.prog.underlying t = some (.slice 46)) (hg : o.guard = none) (l c : Operand) (ho : o.op = .makeSlice t l c)
    (n : Nat) (hl : a.eval l = .int .i64 (n : Int)) (hc : a.eval c = .int .i64 (n : Int)) (hn : n ≤ 1000000)
    (h : wpList Try.prog ops Q rest (a.put o.dst (.slice (some ⟨w.heap.size, 0, none⟩) n n)) (w.alloc (.cells (wcs (List.replicate n wz)) 46))) : wpList Try.prog ops Q (o :: rest) a w := by
  obtain ⟨i, hi, hz, hs, hb⟩ := infoW
  have hr := run_make (P := Try.prog) w t _ i (wv wz) E hi hz .i64 .i64 (n : Int) (n : Int) (by omega) (Int.le_refl _) (by
    have : i.bytes * n ≤ 1024 * 1000000 := Nat.mul_le_mul hb hn
    have h2 : ((i.bytes * n : Nat) : Int) ≤ 1024000000 := by omega
    rw [Int.natCast_mul] at h2; omega) (by omega)
  simp only [Int.toNat_natCast, hs] at hr
  rw [made_works] at hr
  refine wpList_plain hg fun K hK' => ?_
  unfold Oper.wp
  simp [execOp, ho, hl, hc, hr, Result.andThen]
  exact hK' _ _ h
end Go.Proofs.Ytblkfbbdeodpjaa.Wo
