/- The boxes of the law SlabClaims: those of Kb, and its three lists (made by gensc2.py). -/
import Derived.Test.YtblkfbbdeodpjaaKb
namespace Go.Proofs.Ytblkfbbdeodpjaa.Me
open Go Go.RowKit Go.Proofs.Ytblkfbbdeodpjaa.Gro Go.Proofs.Ytblkfbbdeodpjaa.Own Go.Proofs.Ytblkfbbdeodpjaa.Wd Go.Proofs.Ytblkfbbdeodpjaa.Ap Go.Proofs.Ytblkfbbdeodpjaa.Pl Go.Proofs.Ytblkfbbdeodpjaa.Wo
set_option linter.unusedVariables false
set_option linter.unusedSimpArgs false
def nl (l : List Nat) : Array Value := iv .i64 (l.map Int.ofNat)
theorem nl_set (l : List Nat) (j v : Nat) : (nl l).setIfInBounds j (.int .i64 (v : Int)) = nl (l.set j v) := by
  unfold nl
  rw [List.map_set]
  exact iv_set .i64 _ j (v : Int)
theorem nl_get {l : List Nat} {j : Nat} (h : j < l.length) : (nl l)[j]? = some (.int .i64 (l[j] : Int)) := by
  unfold nl
  rw [iv_get (by simpa using h)]
  simp
theorem nl_zero (n : Nat) : nl (List.replicate n 0) = iv .i64 (List.replicate n 0) := by
  unfold nl
  rw [List.map_replicate]
  rfl
structure Cb (w0 : World) (c : Cfg) (gc g gl cp ga : Nat) (a : Acc) (L : List Int) (cs : Array Value) (F H : List Nat) (T : List Int) (w : World) : Prop where
  K : Kb w0 c gc g gl cp ga a L cs w
  F : Bk w (ga + 1) (nl F) 3
  H : Bk w (ga + 2) (nl H) 3
  T : Bk w (ga + 3) (iv .u64 T) 22
section
variable {w0 w u : World} {c : Cfg} {gc g gl cp ga : Nat} {a a' : Acc} {L L' : List Int} {cs : Array Value} {F H : List Nat} {T : List Int}
theorem Cb.keep (h : Cb w0 c gc g gl cp ga a L cs F H T w) (hb : Below w.heap.size w u) : Cb w0 c gc g gl cp ga a L cs F H T u := ⟨h.K.keep hb, h.F.keep hb, h.H.keep hb, h.T.keep hb⟩
theorem Cb.touch (h : Cb w0 c gc g gl cp ga a L cs F H T w) (M' : MemAt w0.heap.size u g c a' gl cp L') (T' : Touch g gl w u) : Cb w0 c gc g gl cp ga a' L' cs F H T u :=
  have := h.K.o1
  have := h.K.o2
  have := h.K.o3
  have := h.K.o4
  have := h.K.o5
  ⟨h.K.touch M' T', T'.bk h.F (by omega) (by omega), T'.bk h.H (by omega) (by omega), T'.bk h.T (by omega) (by omega)⟩
theorem Cb.far (h : Cb w0 c gc g gl cp ga a L cs F H T w) {b : Nat} (hb : ga + 3 < b) (j : Nat) (v : Value) : Cb w0 c gc g gl cp ga a L cs F H T (w.setCell ⟨b, j, none⟩ v) :=
  ⟨h.K.far (by omega) j v, h.F.setCell_far (a := ⟨b, j, none⟩) (by simp; omega) v, h.H.setCell_far (a := ⟨b, j, none⟩) (by simp; omega) v, h.T.setCell_far (a := ⟨b, j, none⟩) (by simp; omega) v⟩
theorem Cb.farRow (h : Cb w0 c gc g gl cp ga a L cs F H T w) {b : Nat} (hb : ga + 3 < b) (vs : Array Value) : Cb w0 c gc g gl cp ga a L cs F H T (w.setRow b vs) :=
  ⟨h.K.farRow (by omega) vs, h.F.setRow_far (by omega) _, h.H.setRow_far (by omega) _, h.T.setRow_far (by omega) _⟩
theorem Cb.setA (h : Cb w0 c gc g gl cp ga a L cs F H T w) (cs' : Array Value) : Cb w0 c gc g gl cp ga a L cs' F H T (w.setRow ga cs') :=
  ⟨h.K.setA cs', h.F.setRow_far (by omega) _, h.H.setRow_far (by omega) _, h.T.setRow_far (by omega) _⟩
theorem Cb.setF (h : Cb w0 c gc g gl cp ga a L cs F H T w) (j v : Nat) : Cb w0 c gc g gl cp ga a L cs (F.set j v) H T (w.setCell ⟨ga + 1, j, none⟩ (.int .i64 (v : Int))) :=
  ⟨h.K.far (by omega) j _, by have := h.F.setCell j (.int .i64 (v : Int)); rwa [nl_set] at this, h.H.setCell_far (a := ⟨ga + 1, j, none⟩) (by simp) _, h.T.setCell_far (a := ⟨ga + 1, j, none⟩) (by simp) _⟩
theorem Cb.setH (h : Cb w0 c gc g gl cp ga a L cs F H T w) (j v : Nat) : Cb w0 c gc g gl cp ga a L cs F (H.set j v) T (w.setCell ⟨ga + 2, j, none⟩ (.int .i64 (v : Int))) :=
  ⟨h.K.far (by omega) j _, h.F.setCell_far (a := ⟨ga + 2, j, none⟩) (by simp) _, by have := h.H.setCell j (.int .i64 (v : Int)); rwa [nl_set] at this, h.T.setCell_far (a := ⟨ga + 2, j, none⟩) (by simp) _⟩
theorem Cb.setT (h : Cb w0 c gc g gl cp ga a L cs F H T w) (j : Nat) (v : Int) : Cb w0 c gc g gl cp ga a L cs F H (T.set j v) (w.setCell ⟨ga + 3, j, none⟩ (.int .u64 v)) :=
  ⟨h.K.far (by omega) j _, h.F.setCell_far (a := ⟨ga + 3, j, none⟩) (by simp) _, h.H.setCell_far (a := ⟨ga + 3, j, none⟩) (by simp) _, by have := h.T.setCell j (.int .u64 v); rwa [iv_set] at this⟩
theorem Cb.f (h : Cb w0 c gc g gl cp ga a L cs F H T w) {j v : Nat} (hj : j < F.length) (hv : F.getD j 0 = v) : w.cell? ⟨ga + 1, j, none⟩ = some (.int .i64 (v : Int)) := by
  rw [h.F.cells, nl_get hj]
  rw [List.getD_eq_getElem?_getD, List.getElem?_eq_getElem hj] at hv
  rw [show F[j] = v from hv]
theorem Cb.h (h : Cb w0 c gc g gl cp ga a L cs F H T w) {j v : Nat} (hj : j < H.length) (hv : H.getD j 0 = v) : w.cell? ⟨ga + 2, j, none⟩ = some (.int .i64 (v : Int)) := by
  rw [h.H.cells, nl_get hj]
  rw [List.getD_eq_getElem?_getD, List.getElem?_eq_getElem hj] at hv
  rw [show H[j] = v from hv]
theorem Cb.t (h : Cb w0 c gc g gl cp ga a L cs F H T w) {j : Nat} {v : Int} (hj : j < T.length) (hv : T.getD j 0 = v) : w.cell? ⟨ga + 3, j, none⟩ = some (.int .u64 v) := by
  rw [h.T.cells, iv_get hj]
  rw [List.getD_eq_getElem?_getD, List.getElem?_eq_getElem hj] at hv
  rw [show T[j] = v from hv]
end
end Go.Proofs.Ytblkfbbdeodpjaa.Me
