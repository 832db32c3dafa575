/- rack.Put, Take, Hold, Next (made by genrack.py). -/
import Derived.Test.YtgjkjobemnhbmaaWorkCopy
import Derived.Test.YtgjkjobemnhbmaaPlanNum
namespace Go.Proofs.Ytgjkjobemnhbmaa.Wo
open Go Go.RowKit Go.Proofs.Ytgjkjobemnhbmaa.Gro Go.Proofs.Ytgjkjobemnhbmaa.Own Go.Proofs.Ytgjkjobemnhbmaa.Wd Go.Proofs.Ytgjkjobemnhbmaa.Ap Go.Proofs.Ytgjkjobemnhbmaa.Pl
set_option linter.unusedVariables false
set_option linter.unusedSimpArgs false

abbrev ccW (c : Cfg) : Array Value := #[.int .i64 c.ww, .int .i64 c.sl, .int .i64 c.bl, .int .i64 c.wd, .int .i64 c.en, .int .i64 c.rk, .int .i64 c.bg, .int .u64 c.la]
theorem Few.mono {m m' : Nat} {x : St} (h : Few m x) (hm : m ≤ m') : Few m' x := ⟨Nat.le_trans h.rk hm, Nat.le_trans h.l0 hm, Nat.le_trans h.l1 hm, Nat.le_trans h.l2 hm, Nat.le_trans h.hl hm, Nat.le_trans h.rd hm⟩
def putS (m : Int) (x : St) (b : Int) : St := if (x.rk.length : Int) < m then { x with rk := x.rk ++ [b] } else x
def takeS (x : St) : St := { x with rk := x.rk.dropLast }
def takeB (x : St) : Int := x.rk.getLastD (-1)
def holdS (x : St) (M : List Int) : St := { x with hl := x.hl ++ M }
def nextS (x : St) : St := { x with hl := x.hl.tail }
def nextB (x : St) : Int := x.hl.headD (-1)
theorem reads_one {w : World} {k : IntKind} {t : TypeId} {v : Int} {g : Nat} (hg : g = w.heap.size) : Reads (w.alloc (.cells #[.int k v] t)) k (.slice (some ⟨g, 0, none⟩) 1 1) [v] := by
  subst hg
  exact Reads.of_bk (l := [v]) (Bk.new w #[.int k v] t) (by unfold maxLen; simp)
theorem Fresh.cells {B : Nat} {w : World} {k : IntKind} {t : TypeId} {y : Sl} {l : List Int} (h : Fresh B w k t y l) (h0 : 0 < l.length) : ∃ g, y = ⟨some ⟨g, 0, none⟩, l.length, l.length⟩ ∧ B ≤ g ∧ g < w.heap.size ∧ ∀ i (hi : i < l.length), w.cell? ⟨g, i, none⟩ = some (.int k l[i]) := by
  obtain ⟨ht, ho⟩ := h
  obtain ⟨g, cap, he, hB, hg, _, _, hc⟩ := owns_cells ho h0
  obtain ⟨ad, ln, cp⟩ := y
  simp only [Sl.v, Value.slice.injEq] at he
  obtain ⟨rfl, rfl, rfl⟩ := he
  simp only at ht
  subst ht
  exact ⟨g, rfl, hB, hg, fun i hi => by rw [hc i (by simpa using hi)]; simp [hi]⟩
theorem reads_cut {w : World} {k : IntKind} {g n cap : Nat} {off : Nat} {l : List Int} (hg : g < w.heap.size) (hl : l.length = n) (h1 : n ≤ cap) (h2 : cap ≤ maxLen) (h : ∀ i (hi : i < l.length), w.cell? ⟨g, off + i, none⟩ = some (.int k l[i])) : Reads w k (.slice (some ⟨g, off, none⟩) n cap) l :=
  ⟨_, cap, by rw [hl], by omega, h2, .inr ⟨g, off, rfl, hg, h⟩⟩
end Go.Proofs.Ytgjkjobemnhbmaa.Wo
